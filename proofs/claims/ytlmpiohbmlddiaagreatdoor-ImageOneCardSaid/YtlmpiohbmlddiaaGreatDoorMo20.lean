/- Tr4, Ts8, Iz3, Ps1b, Ps4, Ps7, Ps8, Pw2, Io1, Io2, Iz1, Iz2: their declarations that are needed, laid in one text, remarks and blanks left out. -/
import Derived.RegionTactic
import Derived.ChangeAlike
import Derived.Test.YtlmpiohbmlddiaaGreatDoorMo19
namespace Go.Proofs.YtlmpiohbmlddiaaGreatDoor
open Go.RowKit
set_option maxRecDepth 100000
def Ext (st st':MS):Prop:=st'.m.length=st.m.length∧(∀ j,0≤st.m.getD j (-1)→st'.m.getD j (-1)=st.m.getD j (-1))∧∃ t,st'.q=st.q++t
theorem Ext.refl (st:MS):Ext st st:=⟨rfl,fun _ _=>rfl,[],by simp⟩
theorem Ext.trans {a b c:MS} (h:Ext a b) (h2:Ext b c):Ext a c:=by
 obtain ⟨t,ht⟩:=h.2.2;obtain ⟨u,hu⟩:=h2.2.2;refine ⟨h2.1.trans h.1,fun j hj=> ?_,t++u,by rw [hu,ht,List.append_assoc]⟩;rw [h2.2.1 j (by rw [h.2.1 j hj];exact hj),h.2.1 j hj]
def OkE (L:List Dr) (G:List Nd) (st:MS) (r:Nat) (e:Eg):Prop:=∃ k:Nat,bV L (r:Int) e.lb=k∧st.m.getD k (-1)=e.to∧eG (L.getD k drZ) (G.getD e.to.toNat ndZ)=true
theorem OkE.ext {L:List Dr} {G:List Nd} {st st':MS} {r:Nat} {e:Eg} (h:OkE L G st r e) (hx:Ext st st') (h0:0<e.to):OkE L G st' r e:=by
 obtain ⟨k,h1,h2,h3⟩:=h;exact ⟨k,h1,by rw [hx.2.1 k (by rw [h2];omega),h2],h3⟩
def DK (st:MS):Prop:=∀ j,0≤st.m.getD j (-1)→j ∈ st.q
theorem rT {l:List Int} {k:Nat} {a b:Int} (h:k<l.length):l.getD k a=l.getD k b:=by rw [bF h,bF h]
theorem jW {l:List Int} {k:Nat} {x:Int} (hk:k<l.length) (j:Nat):(l.set k x).getD j (-1)=if k=j then x else l.getD j (-1):=by
 rw [List.getD_eq_getElem?_getD,List.getElem?_set]
 by_cases h:k=j
 · subst h
   rw [if_pos rfl,if_pos rfl,if_pos hk];rfl
 · rw [if_neg h,if_neg h,List.getD_eq_getElem?_getD]
theorem QZ {L:List Dr} {G:List Nd} {r:Nat} {st st':MS} {e:Eg} (hi:MInv L G st) (hq:DK st) (ht:0<e.to∧e.to<(G.length:Int)) (h:eL L G r st e=some st'):MInv L G st'∧DK st'∧Ext st st'∧OkE L G st' r e:=by
 unfold eL at h;have hlt:=qA L (r:Int) e.lb
 split at h
 · cases h
 · rename_i hn
   obtain ⟨k,hk⟩:∃ k:Nat,bV L (r:Int) e.lb=k:=⟨(bV L (r:Int) e.lb).toNat,by omega⟩;rw [hk] at h hlt;rw [Int.toNat_natCast] at h;have hkm:k<st.m.length:=by rw [hi.len];omega
   split at h
   · cases h
   · rename_i hio
     have hiso:eG (L.getD k drZ) (G.getD e.to.toNat ndZ)=true:=by
      cases hb:eG (L.getD k drZ) (G.getD e.to.toNat ndZ) with
      |true=>rfl
      |false=>exact absurd hb hio
     split at h
     · rename_i hx
       obtain rfl:=Option.some.inj h;rw [bF hkm] at hx;refine ⟨hi.set hkm hx ht.1 ht.2,fun j hj=> ?_,⟨by simp,fun j hj=> ?_,[k],rfl⟩,k,hk,?_,hiso⟩
       · rw [jW hkm] at hj
         by_cases hkj:k=j
         · subst hkj;simp
         · rw [if_neg hkj] at hj
           exact List.mem_append_left _ (hq j hj)
       · show (st.m.set k e.to).getD j (-1)=_
         rw [jW hkm]
         by_cases hkj:k=j
         · subst hkj
           rw [bF hkm] at hj;omega
         · rw [if_neg hkj]
       · show (st.m.set k e.to).getD k (-1)=_
         rw [jW hkm,if_pos rfl]
     · split at h
       · rename_i hxe
         obtain rfl:=Option.some.inj h;exact ⟨hi,hq,Ext.refl _,k,hk,by rw [rT (b:=0) hkm];exact hxe,hiso⟩
       · cases h
theorem zX {L:List Dr} {G:List Nd} {r:Nat}:∀ {es:List Eg} {st st':MS},MInv L G st→DK st→(∀ e ∈ es,0<e.to∧e.to<(G.length:Int))→dN L G r es st=some st'→MInv L G st'∧DK st'∧Ext st st'∧∀ e ∈ es,OkE L G st' r e
 |[],st,st',hi,hq,_,h=>by
  obtain rfl:=Option.some.inj h;exact ⟨hi,hq,Ext.refl _,fun e he=>by cases he⟩
 |e::es,st,st',hi,hq,ht,h=>by
  unfold dN at h;cases hs:eL L G r st e with
  |none=>rw [hs] at h;cases h
  |some s1=>
   rw [hs] at h;obtain ⟨h1,h2,h3,h4⟩:=QZ hi hq (ht e List.mem_cons_self) hs;obtain ⟨k1,k2,k3,k4⟩:=zX h1 h2 (fun x hx=>ht x (List.mem_cons_of_mem _ hx)) h;refine ⟨k1,k2,h3.trans k3,fun x hx=> ?_⟩
   rcases List.mem_cons.1 hx with rfl|hx
   · exact h4.ext k3 (ht x List.mem_cons_self).1
   · exact k4 x hx
theorem RB {G:List Nd} {st st':MS} {r:Nat} (h:Ext st st') (h0:0≤st.m.getD r (-1)) (hr:r<st.m.length):fE G st' r=fE G st r:=by
 unfold fE;have hr':r<st'.m.length:=by rw [h.1];exact hr
 have e:st'.m.getD r 0=st.m.getD r 0:=by
  rw [rT (b:= -1) hr',rT (b:= -1) hr];exact h.2.1 r h0
 rw [e]
theorem OP {L:List Dr} {G:List Nd} (hl:dM G=true):∀ {n i:Nat} {st:MS} {m:List Int},MInv L G st→DK st→(∀ p r,p<i→st.q[p]? =some r→∀ e ∈ fE G st r,OkE L G st r e)→iE L G n i st=some m→∃ st',st'.m=m∧MInv L G st'∧Ext st st'∧DK st'∧∀ r ∈ st'.q,∀ e ∈ fE G st' r,OkE L G st' r e
 |0,_,_,_,_,_,_,h=>by cases h
 |n+1,i,st,m,hi,hq,hok,h=>by
  cases hs:st.q[i]? with
  |none=>
   rw [FG hs] at h;refine ⟨st,Option.some.inj h,hi,Ext.refl _,hq,fun r hr e he=> ?_⟩;obtain ⟨p,hp,rfl⟩:=List.getElem_of_mem hr;have hlen:st.q.length≤i:=List.getElem?_eq_none_iff.1 hs;exact hok p _ (by omega) (List.getElem?_eq_getElem hp) e he
  |some r=>
   rw [MZ hs] at h;cases hx:dN L G r (fE G st r) st with
   |none=>rw [hx] at h;cases h
   |some s1=>
    rw [hx] at h;have hrq:r ∈ st.q:=List.mem_of_getElem? hs;obtain ⟨hrm,hr0⟩:=hi.qin r hrq
    have hG:(st.m.getD r 0).toNat<G.length:=by
     rw [bF hrm]
     rcases hi.each r hrm with hh|hh<;>omega
    have hto:∀ e ∈ fE G st r,0<e.to∧e.to<(G.length:Int):=fun e he=>by
     unfold fE at he;rw [bF hG] at he;exact (mB hl).2 _ (List.getElem_mem hG) e he
    obtain ⟨h1,h2,h3,h4⟩:=zX hi hq hto hx
    have hval:∀ x ∈ st.q,x<st.m.length∧0≤st.m.getD x (-1):=fun x hxq=>by
     obtain ⟨a,b⟩:=hi.qin x hxq;exact ⟨a,by rw [bF a];exact b⟩
    obtain ⟨t,ht⟩:=h3.2.2
    obtain ⟨s2,k1,k2,k3,k4,k5⟩:=OP hl (n:=n) (i:=i+1) (st:=s1) (m:=m) h1 h2 (fun p x hp hpx e he=>by
     have hiq:i<st.q.length:=(List.getElem?_eq_some_iff.1 hs).1
     have hpx':st.q[p]? =some x:=by
      rw [ht,List.getElem?_append_left (by omega)] at hpx;exact hpx
     obtain ⟨a,b⟩:=hval x (List.mem_of_getElem? hpx');rw [RB h3 b a] at he
     rcases Nat.lt_or_ge p i with hpi|hpi
     · have hG2:(st.m.getD x 0).toNat<G.length:=by
        rw [bF a];rw [bF a] at b
        rcases hi.each x a with hh|hh<;>omega
       have ht2:0<e.to:=by
        unfold fE at he;rw [bF hG2] at he;exact ((mB hl).2 _ (List.getElem_mem hG2) e he).1
       exact (hok p x hpi hpx' e he).ext h3 ht2
     · obtain rfl:p=i:=by omega
       obtain rfl:r=x:=Option.some.inj (hs.symm.trans hpx');exact h4 e he) h
    exact ⟨s2,k1,k2,h3.trans k3,k4,k5⟩
theorem uM {L:List Dr} {G:List Nd} {m:List Int} (hL:0<L.length) (hl:dM G=true) (h:fH L G=some m):
 m.length=L.length∧(∃ h0:0<m.length,m[0]=0)∧(∀ j (hj:j<m.length),m[j]= -1∨(0≤m[j]∧m[j]<(G.length:Int)))∧
  ∀ i y (hi:i<m.length) (_hy:m[i]=((y:Nat):Int)) (hyG:y<G.length),∀ e ∈ G[y].ed,∃ (k z:Nat) (hk:k<L.length) (hkm:k<m.length) (hz:z<G.length),bV L (i:Int) e.lb=k∧e.to=z∧m[k]=z∧L[k].pk.nm=G[z].nm∧L[k].pk.a=G[z].a∧L[k].pk.b=G[z].b∧L[k].pk.c=G[z].c:=by
 have hG:=(mB hl).1
 have hq0:DK (cW L.length):=fun j hj=>by
  unfold cW at hj ⊢;rw [jW (by simpa using hL)] at hj
  by_cases h0:0=j
  · subst h0;simp
  · rw [if_neg h0,List.getD_eq_getElem?_getD,List.getElem?_replicate] at hj
    split at hj
    · exact absurd hj (by decide)
    · exact absurd hj (by decide)
 obtain ⟨st,rfl,h1,h2,h3,h4⟩:=OP hl (MInv.start hL hG) hq0 (fun p r hp=>by omega) h;have hlen:=h1.len;refine ⟨hlen,⟨by omega,?_⟩,h1.each,fun i y hi hy hyG e he=> ?_⟩
 · have e0:(cW L.length).m.getD 0 (-1)=0:=by
    unfold cW;rw [jW (by simpa using hL),if_pos rfl]
   have:=h2.2.1 0 (by rw [e0];exact Int.le_refl _)
   rw [e0,bF (by omega)] at this;exact this
 · have hiq:i ∈ st.q:=h3 i (by rw [bF hi,hy];omega)
   have he2:e ∈ fE G st i:=by
    unfold fE;rw [bF hi,hy,Int.toNat_natCast,bF hyG];exact he
   obtain ⟨k,k1,k2,k3⟩:=h4 i hiq e he2;have ht:=(mB hl).2 _ (List.getElem_mem hyG) e he;have hlt:=qA L (i:Int) e.lb;have hkL:k<L.length:=by omega
   have hkm:k<st.m.length:=by omega
   obtain ⟨z,hz⟩:∃ z:Nat,e.to=z:=⟨e.to.toNat,by omega⟩;have hzG:z<G.length:=by omega
   rw [hz,Int.toNat_natCast,bF hkL,bF hzG] at k3;rw [bF hkm,hz] at k2;unfold eG at k3;simp only [Bool.and_eq_true,decide_eq_true_eq,cH] at k3;exact ⟨k,z,hkL,hkm,hzG,k1,hz,k2,k3.1,k3.2.1.1,k3.2.1.2,k3.2.2⟩
theorem uN {w:World} {B:Nat} {v:Value} {l:List Int} (h:OwnI w B v l):∃ a c,v= .slice a l.length c∧∀ j (_:j<l.length),∃ g,a=some ⟨g,0,none⟩∧InI w g j l[j]:=by
 have h0:=h
 rcases h.2 with ⟨rfl,hn⟩|⟨g,cap,cur,rfl,hB,hg,hc,_⟩
 · exact ⟨none,0,by rw [hn],fun j hj=>by omega⟩
 · refine ⟨_,cap,rfl,fun j hj=>⟨g,rfl,?_⟩⟩
   have e:=World.ownsRow.cellAt h0 j (by omega);have e2:(iX l)[j]? =some (.int .i64 l[j]):=by simp [iX,hj]
   exact ⟨e.trans e2,(World.ownsRow.lt h0 g rfl).2⟩
theorem mK {L:List Dr} {G:List Nd} (h:iY L G=0):(eH L G).length=L.length:=by
 obtain ⟨h1,h2,h3⟩:=iI h;unfold eH;rw [if_pos ⟨h1,h2⟩];cases hm:fH L G with
 |none=>rw [hm] at h3;cases h3
 |some m=>exact (uM (dL.1 h1).1.1 h2 hm).1
theorem TrOk.apart {L:List Dr} (h:TrOk L) {i j:Nat} (hi:i<L.length) (hj:j<L.length) (hne:i≠j):aG L[i].pa≠aG L[j].pa:=fun e=>by
 have hn:∀ k (hk:k<L.length),L[k].pa=[]∨aV L[k].pa=true:=fun k hk=>by
  rcases Nat.eq_zero_or_pos k with rfl|h0
  · exact Or.inl (h.root hk)
  · exact Or.inr (h.names k hk (by omega)).2.1
 have h1:=iW (hn i hi);rw [e,iW (hn j hj)] at h1;exact hne (h.uniq i j hi hj (Option.some.inj h1).symm)
theorem aP {w:World} {N i j:Nat} {u x:Value} (h:i≠j) (hx:w.cell? ⟨N,j,none⟩=some x):(w.setCell ⟨N,i,none⟩ u).cell? ⟨N,j,none⟩=some x:=(World.cell?_setCell_other _ _ _ _ (fun e=>by cases e;exact h rfl)).trans hx
theorem OQ {w:World} {N:Nat} {x0 x1 x2 x3 x4 x5 x6:Value} (j0:w.cell? ⟨N,0,none⟩=some x0) (j1:w.cell? ⟨N,1,none⟩=some x1) (j2:w.cell? ⟨N,2,none⟩=some x2) (j3:w.cell? ⟨N,3,none⟩=some x3) (j4:w.cell? ⟨N,4,none⟩=some x4) (j5:w.cell? ⟨N,5,none⟩=some x5) (j6:w.cell? ⟨N,6,none⟩=some x6) (u0 u1 u2 u3 u4 u5 u6:Value):
 (((((((w.setCell ⟨N,0,none⟩ u0).setCell ⟨N,1,none⟩ u1).setCell ⟨N,2,none⟩ u2).setCell ⟨N,3,none⟩ u3).setCell ⟨N,4,none⟩ u4).setCell ⟨N,5,none⟩ u5).setCell ⟨N,6,none⟩ u6).cell? ⟨N,0,none⟩=some u0∧(((((((w.setCell ⟨N,0,none⟩ u0).setCell ⟨N,1,none⟩ u1).setCell ⟨N,2,none⟩ u2).setCell ⟨N,3,none⟩ u3).setCell ⟨N,4,none⟩ u4).setCell ⟨N,5,none⟩ u5).setCell ⟨N,6,none⟩ u6).cell? ⟨N,1,none⟩=some u1∧(((((((w.setCell ⟨N,0,none⟩ u0).setCell ⟨N,1,none⟩ u1).setCell ⟨N,2,none⟩ u2).setCell ⟨N,3,none⟩ u3).setCell ⟨N,4,none⟩ u4).setCell ⟨N,5,none⟩ u5).setCell ⟨N,6,none⟩ u6).cell? ⟨N,2,none⟩=some u2∧(((((((w.setCell ⟨N,0,none⟩ u0).setCell ⟨N,1,none⟩ u1).setCell ⟨N,2,none⟩ u2).setCell ⟨N,3,none⟩ u3).setCell ⟨N,4,none⟩ u4).setCell ⟨N,5,none⟩ u5).setCell ⟨N,6,none⟩ u6).cell? ⟨N,3,none⟩=some u3∧(((((((w.setCell ⟨N,0,none⟩ u0).setCell ⟨N,1,none⟩ u1).setCell ⟨N,2,none⟩ u2).setCell ⟨N,3,none⟩ u3).setCell ⟨N,4,none⟩ u4).setCell ⟨N,5,none⟩ u5).setCell ⟨N,6,none⟩ u6).cell? ⟨N,4,none⟩=some u4∧(((((((w.setCell ⟨N,0,none⟩ u0).setCell ⟨N,1,none⟩ u1).setCell ⟨N,2,none⟩ u2).setCell ⟨N,3,none⟩ u3).setCell ⟨N,4,none⟩ u4).setCell ⟨N,5,none⟩ u5).setCell ⟨N,6,none⟩ u6).cell? ⟨N,5,none⟩=some u5∧(((((((w.setCell ⟨N,0,none⟩ u0).setCell ⟨N,1,none⟩ u1).setCell ⟨N,2,none⟩ u2).setCell ⟨N,3,none⟩ u3).setCell ⟨N,4,none⟩ u4).setCell ⟨N,5,none⟩ u5).setCell ⟨N,6,none⟩ u6).cell? ⟨N,6,none⟩=some u6:=by
 exact ⟨aP (by decide) (aP (by decide) (aP (by decide) (aP (by decide) (aP (by decide) (aP (by decide) (World.cell?_setCell_same _ _ _ (j0))))))),aP (by decide) (aP (by decide) (aP (by decide) (aP (by decide) (aP (by decide) (World.cell?_setCell_same _ _ _ (aP (by decide) (j1))))))),aP (by decide) (aP (by decide) (aP (by decide) (aP (by decide) (World.cell?_setCell_same _ _ _ (aP (by decide) (aP (by decide) (j2))))))),aP (by decide) (aP (by decide) (aP (by decide) (World.cell?_setCell_same _ _ _ (aP (by decide) (aP (by decide) (aP (by decide) (j3))))))),aP (by decide) (aP (by decide) (World.cell?_setCell_same _ _ _ (aP (by decide) (aP (by decide) (aP (by decide) (aP (by decide) (j4))))))),aP (by decide) (World.cell?_setCell_same _ _ _ (aP (by decide) (aP (by decide) (aP (by decide) (aP (by decide) (aP (by decide) (j5))))))),World.cell?_setCell_same _ _ _ (aP (by decide) (aP (by decide) (aP (by decide) (aP (by decide) (aP (by decide) (aP (by decide) (j6)))))))⟩
theorem cY {w w':World} {N B:Nat} {u0 u1 u2 u3 u4 u5 u6:Value} (hN:B≤N) (h:Below B w w'):Below B w (((((((w'.setCell ⟨N,0,none⟩ u0).setCell ⟨N,1,none⟩ u1).setCell ⟨N,2,none⟩ u2).setCell ⟨N,3,none⟩ u3).setCell ⟨N,4,none⟩ u4).setCell ⟨N,5,none⟩ u5).setCell ⟨N,6,none⟩ u6):=
 (((((((h.setCell (p:=⟨N,0,none⟩) hN _).setCell (p:=⟨N,1,none⟩) hN _).setCell (p:=⟨N,2,none⟩) hN _).setCell (p:=⟨N,3,none⟩) hN _).setCell (p:=⟨N,4,none⟩) hN _).setCell (p:=⟨N,5,none⟩) hN _).setCell (p:=⟨N,6,none⟩) hN _)
theorem TV {w:World} {N g:Nat} {u0 u1 u2 u3 u4 u5 u6:Value} (h:g≠N):(((((((w.setCell ⟨N,0,none⟩ u0).setCell ⟨N,1,none⟩ u1).setCell ⟨N,2,none⟩ u2).setCell ⟨N,3,none⟩ u3).setCell ⟨N,4,none⟩ u4).setCell ⟨N,5,none⟩ u5).setCell ⟨N,6,none⟩ u6).heap[g]? =w.heap[g]? :=
 (Below.heap_setCell _ _ _ _ h).trans ((Below.heap_setCell _ _ _ _ h).trans ((Below.heap_setCell _ _ _ _ h).trans ((Below.heap_setCell _ _ _ _ h).trans ((Below.heap_setCell _ _ _ _ h).trans ((Below.heap_setCell _ _ _ _ h).trans ((Below.heap_setCell _ _ _ _ h)))))))
def GB (ws:List Sc.Bs):Int:=if ws.head? =some [112,97,99,107,97,103,101]∧ws.length=3 then (if Sc.aK (ws.getD 1 [])=true then (if okP (Sc.ba (ws.getD 2 []))=true then 0 else 20) else 23) else 22
def pkW:List Sc.Bs:=[[110,101,101,100,115],[98,101,115,105,100,101],[108,105,107,101,115]]
def wE:List (List Sc.Bs)→Int
 |[]=>22
 |h::r=>if GB h=0 then (eA pkW 0 [[],[],[]] r).1 else GB h
def wF:List (List Sc.Bs)→Pg
 |[]=>⟨⟨#[]⟩,0,0,0,[],[],[]⟩
 |h::r=>⟨Sc.ba (h.getD 1 []),oJ (Sc.ba (h.getD 2 [])),oK (Sc.ba (h.getD 2 [])),oL (Sc.ba (h.getD 2 [])),(eA pkW 0 [[],[],[]] r).2.getD 0 [],(eA pkW 0 [[],[],[]] r).2.getD 1 [],(eA pkW 0 [[],[],[]] r).2.getD 2 []⟩
def OwnP (w:World) (B:Nat) (P:Pg) (v1 v2 v3:Value):Prop:=∃ q1 q2 q3,(OwnD w B v1 q1∧q1.map (·.1)=P.d)∧(OwnD w B v2 q2∧q2.map (·.1)=P.p)∧(OwnD w B v3 q3∧q3.map (·.1)=P.o)
theorem OwnP.below {w w':World} {B:Nat} {P:Pg} {v1 v2 v3:Value} (h:OwnP w B P v1 v2 v3) (hb:Below w.heap.size w w'):OwnP w' B P v1 v2 v3:=by
 obtain ⟨q1,q2,q3,h1,h2,h3⟩:=h;exact ⟨q1,q2,q3,⟨h1.1.below hb,h1.2⟩,⟨h2.1.below hb,h2.2⟩,h3.1.below hb,h3.2⟩
theorem OwnP.base {w:World} {B C:Nat} {P:Pg} {v1 v2 v3:Value} (h:OwnP w B P v1 v2 v3) (hc:C≤B):OwnP w C P v1 v2 v3:=by
 obtain ⟨q1,q2,q3,h1,h2,h3⟩:=h;exact ⟨q1,q2,q3,⟨h1.1.base hc,h1.2⟩,⟨h2.1.base hc,h2.2⟩,h3.1.base hc,h3.2⟩
theorem OwnP.at {w:World} {B:Nat} {P:Pg} {v1 v2 v3:Value} (h:OwnP w B P v1 v2 v3):PgAt w P v1 v2 v3:=by
 obtain ⟨q1,q2,q3,h1,h2,h3⟩:=h;exact ⟨h1.2 ▸ h1.1.at,h2.2 ▸ h2.1.at,h3.2 ▸ h3.1.at⟩
noncomputable def zY (t:ByteArray):Int:=if Sc.nJ t 4096=0 then (if wE (Sc.gU t 4096)=0 then (if aT (wF (Sc.gU t 4096))=true then 0 else 24) else wE (Sc.gU t 4096)) else Sc.nJ t 4096
def zZ (t:ByteArray):Pg:=wF (Sc.gU t 4096)
noncomputable def pkL (P:Pg):List (List Sc.Bs):=[[112,97,99,107,97,103,101],P.nm.data.toList,(aI P.a P.b P.c).data.toList]::(cB (lwK 0).data.toList P.d++(cB (lwK 1).data.toList P.p++(cB (lwK 2).data.toList P.o++[])))
theorem kI {P:Pg} (h:eR P=true):Sc.aK P.nm.data.toList=true∧aZ P.a P.b P.c=true∧(dA none P.d=true∧dA none P.p=true∧dA none P.o=true):=by
 unfold eR bO at h;simp only [Bool.and_eq_true] at h;exact ⟨h.1.1.1,h.1.1.2,h.1.2.1.2,h.1.2.2.1.2,h.1.2.2.2.2⟩
theorem OR {P:Pg} (h:eR P=true):Sc.aM (pkL P)=iD P:=by
 obtain ⟨_,_,h1,h2,h3⟩:=kI h;have e:∀ (l:List Sc.Bs) (L:List (List Sc.Bs)),Sc.aM (l::L)=Sc.bK l++Sc.aM L:=fun l L=>by simp [Sc.aM]
 have e2:∀ (K L:List (List Sc.Bs)),Sc.aM (K++L)=Sc.aM K++Sc.aM L:=fun K L=>by simp [Sc.aM]
 unfold pkL iD;rw [e,e2,e2,e2,dO fun d hd=>(bN h1 d hd).2,dO fun d hd=>(bN h2 d hd).2,dO fun d hd=>(bN h3 d hd).2,jE (by simp),mH,mH,Lib.join_one];simp [fB,Sc.aM]
theorem TC {P:Pg} (h:eR P=true):(pkL P).all Sc.isL=true:=by
 obtain ⟨hn,hv,h1,h2,h3⟩:=kI h;unfold pkL;rw [List.all_cons,List.all_append,List.all_append,List.all_append,gE (by decide) (bN h1),gE (by decide) (bN h2),gE (by decide) (bN h3)];have h4:Sc.isW (aI P.a P.b P.c).data.toList=true:=iK hv [] rfl;have h5:=uF hn;unfold Sc.isL;rw [List.all_cons,List.all_cons,List.all_cons,h4,h5];rfl
theorem GC {P:Pg} (h:eR P=true):eA pkW 0 [[],[],[]] (cB (lwK 0).data.toList P.d++(cB (lwK 1).data.toList P.p++(cB (lwK 2).data.toList P.o++[])))=(0,[P.d,P.p,P.o]):=by
 obtain ⟨_,_,h1,h2,h3⟩:=kI h;obtain ⟨a1,b1,e1⟩:=eB (X:=pkW) (x:=(lwK 0).data.toList) (k:=0) (by decide) P.d (cB (lwK 1).data.toList P.p++(cB (lwK 2).data.toList P.o++[])) [[],[],[]] 0 (Nat.le_refl _) (by decide) h1;rw [e1];obtain ⟨a2,b2,e2⟩:=eB (X:=pkW) (x:=(lwK 1).data.toList) (k:=1) (by decide) P.p (cB (lwK 2).data.toList P.o++[]) [P.d,[],[]] a1 (by omega) (by simp) h2;rw [show ([[],[],[]]:List (List Dp)).set 0 (([[],[],[]]:List (List Dp)).getD 0 []++P.d)=[P.d,[],[]] from rfl,e2];obtain ⟨a3,b3,e3⟩:=eB (X:=pkW) (x:=(lwK 2).data.toList) (k:=2) (by decide) P.o [] [P.d,P.p,[]] a2 (by omega) (by simp) h3;rw [show ([P.d,[],[]]:List (List Dp)).set 1 (([P.d,[],[]]:List (List Dp)).getD 1 []++P.p)=[P.d,P.p,[]] from rfl,e3];rfl
theorem GD {P:Pg} (h:aT P=true):zY (aU P)=0∧zZ (aU P)=P:=by
 have hw:=h;unfold aT at h;rw [Bool.and_eq_true,decide_eq_true_eq] at h;obtain ⟨hs,hl⟩:=h;obtain ⟨hn,hv,_⟩:=kI hs;have ht:aU P=⟨(iD P).toArray⟩:=by unfold aU;rw [if_pos hw]
 have hsc:Sc.cZ (aU P).data.toList [] [] []= .ok (pkL P):=by
  have:=Sc.jY (pkL P) [] (TC hs)
  rw [OR hs] at this;rw [ht]
  simpa using this
 have hz:¬ ((4096:Int)<((aU P).size:Int)):=by
  rw [ht]
  have:(⟨(iD P).toArray⟩:ByteArray).size=(iD P).length:=by show (iD P).toArray.size=_;simp
  rw [this];omega
 have hE:Sc.nJ (aU P) 4096=0:=by unfold Sc.nJ;rw [if_neg hz,hsc];rfl
 have hL:Sc.gU (aU P) 4096=pkL P:=by unfold Sc.gU;rw [if_neg hz,hsc];rfl
 obtain ⟨v1,v2,v3,v4⟩:=mV hv;have hb:Sc.ba (aI P.a P.b P.c).data.toList=aI P.a P.b P.c:=Sc.hF _
 have hh:GB [[112,97,99,107,97,103,101],P.nm.data.toList,(aI P.a P.b P.c).data.toList]=0:=by
  unfold GB;rw [if_pos ⟨rfl,rfl⟩];show (if Sc.aK P.nm.data.toList=true then (if okP (Sc.ba (aI P.a P.b P.c).data.toList)=true then 0 else 20) else 23)=(0:Int);rw [if_pos hn,hb,if_pos v1]
 have hle:wE (pkL P)=0:=by
  unfold pkL wE
  simp only
  rw [if_pos hh,GC hs]
 have hlp:wF (pkL P)=P:=by
  unfold pkL wF
  simp only
  rw [GC hs];show (⟨Sc.ba P.nm.data.toList,oJ (Sc.ba (aI P.a P.b P.c).data.toList),oK (Sc.ba (aI P.a P.b P.c).data.toList),oL (Sc.ba (aI P.a P.b P.c).data.toList),P.d,P.p,P.o⟩:Pg)=P;rw [hb,v2,v3,v4,Sc.hF]
 unfold zY zZ;rw [hE,hL,hle,hlp,hw];exact ⟨rfl,rfl⟩
theorem TD {P Q:Pg} (hp:aT P=true) (hq:aT Q=true):aU P=aU Q↔P=Q:=by
 constructor
 · intro h
   rw [←(GD hp).2,←(GD hq).2,h]
 · rintro rfl
   rfl
end Go.Proofs.YtlmpiohbmlddiaaGreatDoor
namespace Go.Proofs.YtlmpiohbmlddiaaGreatDoor
open Go.RowKit Go.Lib Go.Sort
set_option maxRecDepth 100000
structure SamePP (L M:List Dr):Prop where
 len:L.length=M.length
 at_:∀ i (h:i<L.length) (h2:i<M.length),L[i].pa=M[i].pa∧L[i].pk=M[i].pk
theorem SamePP.pas {L M:List Dr} (h:SamePP L M):L.map Dr.pa=M.map Dr.pa:=by
 refine List.ext_getElem (by simp [h.len]) fun i h1 h2=> ?_
 rw [List.getElem_map,List.getElem_map];exact (h.at_ i (by simpa using h1) (by simpa using h2)).1
theorem uO (L:List Dr) (p:List ByteArray):bM L p=match (L.map Dr.pa).findIdx? (fun q=>eqB q p) with
 |some i=>(i:Int)
 |none=> -1:=by
 unfold bM;rw [List.findIdx?_map];rfl
theorem SamePP.find {L M:List Dr} (h:SamePP L M) (p:List ByteArray):bM L p=bM M p:=by rw [uO,uO,h.pas]
theorem SamePP.lookN {L M:List Dr} (h:SamePP L M) (p:List ByteArray) (s:ByteArray):∀ k,lookN L p s k=lookN M p s k
 |0=>h.find _
 |k+1=>by
  show (if bM L (p.take (k+1)++[s])= -1 then _ else _)=(if bM M (p.take (k+1)++[s])= -1 then _ else _);rw [h.find,SamePP.lookN h p s k]
theorem SamePP.look {L M:List Dr} (h:SamePP L M) (f:Int) (s:ByteArray):bV L f s=bV M f s:=by
 unfold bV
 by_cases c:0≤f∧f.toNat<L.length∧Sc.aK s.data.toList=true
 · have c2:0≤f∧f.toNat<M.length∧Sc.aK s.data.toList=true:=⟨c.1,by rw [←h.len];exact c.2.1,c.2.2⟩
   rw [dif_pos c,dif_pos c2,(h.at_ _ c.2.1 c2.2.1).1,h.lookN]
 · have c2:¬ (0≤f∧f.toNat<M.length∧Sc.aK s.data.toList=true):=fun q=>c ⟨q.1,by rw [h.len];exact q.2.1,q.2.2⟩
   rw [dif_neg c,dif_neg c2]
theorem SamePP.isOf {L M:List Dr} (h:SamePP L M) (k:Nat) (n:Nd):eG (L.getD k drZ) n=eG (M.getD k drZ) n:=by
 by_cases c:k<L.length
 · have c2:k<M.length:=by rw [←h.len];exact c
   rw [List.getD_eq_getElem?_getD,List.getD_eq_getElem?_getD,List.getElem?_eq_getElem c,List.getElem?_eq_getElem c2];unfold eG;simp only [Option.getD_some];simp only [(h.at_ k c c2).2]
 · have c2:¬ k<M.length:=by rw [←h.len];exact c
   rw [List.getD_eq_getElem?_getD,List.getD_eq_getElem?_getD,List.getElem?_eq_none (by omega),List.getElem?_eq_none (by omega)]
theorem SamePP.step {L M:List Dr} (h:SamePP L M) (G:List Nd) (r:Nat) (st:MS) (e:Eg):eL L G r st e=eL M G r st e:=by
 unfold eL;rw [h.look,h.isOf]
theorem SamePP.edges {L M:List Dr} (h:SamePP L M) (G:List Nd) (r:Nat):∀ es st,dN L G r es st=dN M G r es st
 |[],_=>rfl
 |e::es,st=>by
  show (eL L G r st e).bind (dN L G r es)=(eL M G r st e).bind (dN M G r es);rw [h.step,funext (SamePP.edges h G r es)]
theorem SamePP.run {L M:List Dr} (h:SamePP L M) (G:List Nd):∀ n i st,iE L G n i st=iE M G n i st
 |0,_,_=>rfl
 |n+1,i,st=>by
  unfold iE;cases st.q[i]? with
  |none=>rfl
  |some r=>
   show (dN L G r (fE G st r) st).bind (iE L G n (i+1))=(dN M G r (fE G st r) st).bind (iE M G n (i+1));rw [h.edges,funext (SamePP.run h G n (i+1))]
theorem SamePP.mapS {L M:List Dr} (h:SamePP L M) (G:List Nd):fH L G=fH M G:=by
 unfold fH;rw [h.len,h.run]
structure IOk (P:Mn) (G:List Nd) (L:List Dr):Prop where
 man:aL P=true
 lok:Lo.dI G=true
 chk:bU L=true
 led:dM G=true
 srt:oQ L=true
 nds:L.map Dr.nd=eH L G
theorem iOk {P:Mn} {G:List Nd} {L:List Dr} (h:eE P G L=true):IOk P G L:=by
 have hz:=iI (nQ h);unfold eE at h;simp only [Bool.and_eq_true] at h;exact ⟨h.1.1,h.1.2,hz.1,hz.2.1,h.2.2.1,cH.1 h.2.2.2⟩
theorem IOk.ok {P:Mn} {G:List Nd} {L:List Dr} (h:IOk P G L):TrOk L:=QK h.chk
theorem IOk.root {P:Mn} {G:List Nd} {L:List Dr} (h:IOk P G L) (h0:0<L.length):L[0]=drZ:=by
 have q:=(dL.1 h.chk).2.1;rw [lW h0] at q;unfold kQ at q;rw [Bool.and_eq_true,Bool.and_eq_true,decide_eq_true_iff,decide_eq_true_iff,cH] at q;obtain ⟨⟨q1,q2⟩,q3⟩:=q;have q4:=List.eq_nil_of_length_eq_zero q1;revert q2 q3 q4;generalize L[0]=d;intro q2 q3 q4;obtain ⟨a,b,c⟩:=d
 simp only at q2 q3 q4
 rw [q2,q3,q4];rfl
theorem IOk.next {P:Mn} {G:List Nd} {L:List Dr} (h:IOk P G L) {i:Nat} (hi:i+1<L.length):dH (aG L[i].pa) (aG L[i+1].pa)<0:=by
 have hs:=h.srt;unfold oQ at hs;have hs:= @of_decide_eq_true _ (Classical.propDecidable _) hs
 rcases qL.tri (aG L[i].pa) (aG L[i+1].pa) with q|q|q
 · exact q
 · exact absurd q (h.ok.apart (by omega) hi (by omega))
 · exact absurd q (hs i hi)
theorem IOk.rise {P:Mn} {G:List Nd} {L:List Dr} (h:IOk P G L):L.Pairwise fun x y=>dH (aG x.pa) (aG y.pa)<0:=by
 rw [List.pairwise_iff_getElem];intro i j hi hj hij
 induction j with
 |zero=>omega
 |succ j ih=>
  rcases Nat.lt_or_ge i j with q|q
  · exact qL.trans _ _ _ (ih (by omega) q) (h.next hj)
  · obtain rfl:i=j:=by omega
    exact h.next hj
theorem pE {L M:List Dr} {mt lt mt' lt':ByteArray} {a b:Ca} (ha:yS L a) (hb:yS M b) (h:caF mt lt a=caF mt' lt' b):tgC a=tgC b:=by
 rw [←FJ (mt:=mt) (lt:=lt) ha,←FJ (mt:=mt') (lt:=lt') hb,h]
theorem wG {pr:Bool} {L:List Dr}:Ca.man ∈ caD pr L:=by unfold caD fL;simp
theorem GE {pr:Bool} {L:List Dr}:Ca.lok ∈ caD pr L:=by unfold caD fL;simp
theorem wH {pr:Bool} {L:List Dr}:Ca.pru ∈ caD pr L↔pr=true:=by
 unfold caD fL;simp only [List.mem_append]
 constructor
 · rintro ((h|h)|h)
   · cases pr
     · simp at h
     · rfl
   · split at h
     · rw [List.mem_singleton] at h
       cases h
     · cases h
   · obtain ⟨d,_,hd⟩:=List.mem_flatMap.1 h
     rcases List.mem_append.1 hd with q|q
     · simp at q
     · split at q
       · rw [List.mem_singleton] at q
         cases q
       · cases q
 · rintro rfl
   exact Or.inl (Or.inl (by simp))
theorem wI {pr:Bool} {L:List Dr} {d:Dr}:Ca.pkg d ∈ caD pr L↔d ∈ L.drop 1:=by
 rw [CQ];simp only [List.mem_append]
 constructor
 · rintro ((h|h)|h)
   · rcases vS h with q|q|q<;>cases q
   · split at h
     · rw [List.mem_singleton] at h
       cases h
     · cases h
   · obtain ⟨e,he,hd⟩:=List.mem_flatMap.1 h
     unfold qX at hd
     rcases List.mem_append.1 hd with q|q
     · simp at q
       rw [q];exact he
     · split at q
       · rw [List.mem_singleton] at q
         cases q
       · cases q
 · intro h
   exact Or.inr (List.mem_flatMap.2 ⟨d,h,by unfold qX;simp⟩)
theorem ByteArray.app_inj {s t u v:ByteArray} (h:(⟨s,false,u⟩:Fi)=⟨t,false,v⟩):s=t∧u=v:=by
 injection h with h1 h2 h3
 exact ⟨h1,h3⟩
theorem DL {G H:List Nd} (hg:Lo.dI G=true) (hh:Lo.dI H=true) (h:Lo.prT G=Lo.prT H):G=H:=by
 unfold Lo.prT at h;rw [if_pos hg,if_pos hh] at h;have h1:=Lo.zQ hg;rw [h,Lo.zQ hh] at h1;exact (Option.some.inj h1).symm
theorem OS {P Q:Mn} {G H:List Nd} {L M:List Dr} {pr ps:Bool} (h:IOk P G L) (k:IOk Q H M) {mt lt mt' lt':ByteArray} (hs:∀ y,y ∈ cM mt lt pr L→y ∈ cM mt' lt' ps M) {d:Dr} (hd:d ∈ L.drop 1):∃ e ∈ M.drop 1,d.pa=e.pa∧d.pk=e.pk:=by
 obtain ⟨_,f1,_⟩:=cI h.ok pr mt lt;obtain ⟨_,f2,_⟩:=cI k.ok ps mt' lt';obtain ⟨b,hb,e⟩:=(f2 _).1 (hs _ ((f1 _).2 ⟨.pkg d,wI.2 hd,rfl⟩));have ho:=gW h.ok (wI (pr:=pr).2 hd);have hbo:=gW k.ok hb;have ht:=pE hbo ho e;cases b with
 |pkg x=>
  have hx:=wI.1 hb;obtain ⟨e1,e2⟩:=ByteArray.app_inj e;obtain ⟨i,hi,hne,rfl⟩:=dF.1 hd;obtain ⟨j,hj,hnj,rfl⟩:=dF.1 hx;refine ⟨_,hx,(jB hbo.1 ho.1 (lD e1)).symm,?_⟩;exact ((TD (k.ok.names j hj hnj).2.2.2 (h.ok.names i hi hne).2.2.2).1 e2).symm
 |_=>cases ht
theorem SamePP.of {P Q:Mn} {G H:List Nd} {L M:List Dr} (h:IOk P G L) (k:IOk Q H M) (h1:∀ d ∈ L.drop 1,∃ e ∈ M.drop 1,d.pa=e.pa∧d.pk=e.pk) (h2:∀ d ∈ M.drop 1,∃ e ∈ L.drop 1,d.pa=e.pa∧d.pk=e.pk):SamePP L M:=by
 have hp:∀ {P:Mn} {G:List Nd} {L:List Dr},IOk P G L→((L.drop 1).map fun d=>(d.pa,d.pk)).Pairwise fun x y=>dH (aG x.1) (aG y.1)<0:=fun {P G L} h=>by
  rw [List.pairwise_map];exact List.Pairwise.drop h.rise
 have hn:∀ {A:List (List ByteArray×Pg)},(A.Pairwise fun x y=>dH (aG x.1) (aG y.1)<0)→A.Nodup:=fun {A} h=>h.imp fun {x y} q e=>by
  subst e;rw [qL.irr] at q;omega
 have hm:∀ x,x ∈ ((L.drop 1).map fun d=>(d.pa,d.pk))↔x ∈ ((M.drop 1).map fun d=>(d.pa,d.pk)):=fun x=>by
  rw [List.mem_map,List.mem_map]
  constructor
  · rintro ⟨d,hd,rfl⟩
    obtain ⟨e,he,q1,q2⟩:=h1 d hd;exact ⟨e,he,by rw [q1,q2]⟩
  · rintro ⟨d,hd,rfl⟩
    obtain ⟨e,he,q1,q2⟩:=h2 d hd;exact ⟨e,he,by rw [q1,q2]⟩
 have hq:((L.drop 1).map fun d=>(d.pa,d.pk))=((M.drop 1).map fun d=>(d.pa,d.pk)):=
  List.Perm.eq_of_pairwise (le:=fun x y:List ByteArray×Pg=>dH (aG x.1) (aG y.1)<0) (fun a b _ _ q1 q2=>by
   have:=(qL.anti _ _).1 q1
   omega) (hp h) (hp k) ((List.perm_ext_iff_of_nodup (hn (hp h)) (hn (hp k))).2 hm)
 have hl:=congrArg List.length hq;rw [List.length_map,List.length_map,List.length_drop,List.length_drop] at hl;have hl1:=h.ok.len.1;have hl2:=k.ok.len.1;refine ⟨by omega,fun i hi hj=> ?_⟩
 rcases Nat.eq_zero_or_pos i with rfl|h0
 · rw [h.root hi,k.root hj]
   exact ⟨rfl,rfl⟩
 · obtain ⟨j,rfl⟩:∃ j,i=1+j:=⟨i - 1,by omega⟩
   have q:=List.getElem_of_eq hq (i:=j) (by rw [List.length_map,List.length_drop];omega);rw [List.getElem_map,List.getElem_map,List.getElem_drop,List.getElem_drop] at q;exact ⟨congrArg Prod.fst q,congrArg Prod.snd q⟩
theorem SamePP.all {P Q:Mn} {G:List Nd} {L M:List Dr} (h:IOk P G L) (k:IOk Q G M) (hs:SamePP L M):L=M:=by
 have hm:L.map Dr.nd=M.map Dr.nd:=by
  rw [h.nds,k.nds];unfold eH;rw [if_pos ⟨h.chk,h.led⟩,if_pos ⟨k.chk,k.led⟩,hs.mapS]
 refine List.ext_getElem hs.len fun i hi hj=> ?_
 have q:=List.getElem_of_eq hm (i:=i) (by rw [List.length_map];exact hi);rw [List.getElem_map,List.getElem_map] at q;obtain ⟨q1,q2⟩:=hs.at_ i hi hj;revert q q1 q2;generalize L[i]=d;generalize M[i]=e;intro q q1 q2;obtain ⟨a,b,c⟩:=d;obtain ⟨a',b',c'⟩:=e
 simp only at q q1 q2
 rw [q,q1,q2]
theorem JW {P Q:Mn} {G H:List Nd} {L M:List Dr} {pr ps:Bool} (h:IOk P G L) (k:IOk Q H M) (e:cM (aF P) (Lo.prT G) pr L=cM (aF Q) (Lo.prT H) ps M):L=M∧G=H∧P=Q∧pr=ps:=by
 obtain ⟨_,f1,_⟩:=cI h.ok pr (aF P) (Lo.prT G);obtain ⟨_,f2,_⟩:=cI k.ok ps (aF Q) (Lo.prT H)
 have hm:aF P=aF Q:=by
  have q:caF (aF P) (Lo.prT G) .man ∈ cM (aF P) (Lo.prT G) pr L:=(f1 _).2 ⟨.man,wG,rfl⟩;rw [e] at q;obtain ⟨b,hb,e2⟩:=(f2 _).1 q;have ht:=pE (gW k.ok hb) (gW h.ok (wG (pr:=pr))) e2;cases b with
  |man=>exact (ByteArray.app_inj e2).2.symm
  |_=>cases ht
 have hl:Lo.prT G=Lo.prT H:=by
  have q:caF (aF P) (Lo.prT G) .lok ∈ cM (aF P) (Lo.prT G) pr L:=(f1 _).2 ⟨.lok,GE,rfl⟩;rw [e] at q;obtain ⟨b,hb,e2⟩:=(f2 _).1 q;have ht:=pE (gW k.ok hb) (gW h.ok (GE (pr:=pr))) e2;cases b with
  |lok=>exact (ByteArray.app_inj e2).2.symm
  |_=>cases ht
 have hp:∀ {P Q:Mn} {G H:List Nd} {L M:List Dr} {pr ps:Bool} {mt lt mt' lt':ByteArray},IOk P G L→IOk Q H M→cM mt lt pr L=cM mt' lt' ps M→pr=true→ps=true:=fun {P Q G H L M pr ps mt lt mt' lt'} h k e hpr=>by
  obtain ⟨_,f1,_⟩:=cI h.ok pr mt lt;obtain ⟨_,f2,_⟩:=cI k.ok ps mt' lt';have q:caF mt lt .pru ∈ cM mt lt pr L:=(f1 _).2 ⟨.pru,wH.2 hpr,rfl⟩;rw [e] at q;obtain ⟨b,hb,e2⟩:=(f2 _).1 q;have ht:=pE (gW k.ok hb) (gW h.ok (wH.2 hpr)) e2;cases b with
  |pru=>exact wH.1 hb
  |_=>cases ht
 obtain rfl:=DL h.lok k.lok hl;refine ⟨SamePP.all h k (SamePP.of h k (fun d hd=>OS h k (fun y hy=>e ▸ hy) hd) (fun d hd=>OS k h (fun y hy=>e ▸ hy) hd)),rfl,(SY h.man k.man).1 hm,?_⟩;cases pr<;>cases ps
 · rfl
 · exact hp k h e.symm rfl
 · exact (hp h k e rfl).symm
 · rfl
theorem rU {P:Mn} {G:List Nd} {L:List Dr} {pr:Bool} (h:IOk P G L) {mt lt:ByteArray}:cM mt lt pr L≠[]:=fun e=>by
 obtain ⟨_,f1,_⟩:=cI h.ok pr mt lt;have q:caF mt lt .man ∈ cM mt lt pr L:=(f1 _).2 ⟨.man,wG,rfl⟩;rw [e] at q;cases q
theorem DM {G:List Nd} (h:Lo.dI G=true) (h1:G.length=1):G=[ndZ]:=by
 match G,h1 with
 |[n],_=>
  unfold Lo.dI at h;simp only [Bool.and_eq_true,decide_eq_true_eq,List.all_eq_true] at h;obtain ⟨⟨⟨_,h2⟩,_⟩,h4⟩:=h;have h5:=h4 n (by simp);obtain ⟨nm,a,b,c,cx,ed⟩:=n;unfold Lo.fJ at h2;simp only [Bool.and_eq_true,decide_eq_true_eq] at h2;obtain ⟨⟨h6,rfl,rfl,rfl⟩,h7⟩:=h2;obtain rfl:=List.eq_nil_of_length_eq_zero h7
  have hed:ed=[]:=by
   cases ed with
   |nil=>rfl
   |cons e r=>
    unfold Lo.cC Lo.oO at h5;simp only [Bool.and_eq_true,decide_eq_true_eq,List.length_nil] at h5;omega
  subst hed
  have hnm:nm=⟨#[]⟩:=by
   obtain ⟨⟨l⟩⟩:=nm
   have:l.length=0:=h6
   rw [List.eq_nil_of_length_eq_zero this]
  rw [hnm];rfl
theorem uP {P:Mn} {G:List Nd} {L:List Dr} {pr:Bool} (h:IOk P G L) (he:eV P G L pr=true):L=[drZ]∧G=[ndZ]∧P=iJ∧pr=false:=by
 unfold eV at he;simp only [Bool.and_eq_true,beq_iff_eq,Bool.not_eq_true',cH] at he;obtain ⟨h1,h2,h3,h4⟩:=he;refine ⟨?_,DM h.lok (by omega),h1,h4⟩;have hl:L.length=1:=by omega
 have h0:=h.root (by omega);obtain ⟨d,rfl⟩:=List.length_eq_one_iff.1 hl;exact congrArg (fun x=>[x]) h0
theorem RC {P Q:Mn} {G H:List Nd} {L M:List Dr} {pr ps:Bool} (hp:eE P G L=true) (hq:eE Q H M=true):eF P G L pr=eF Q H M ps↔(L=M∧G=H∧P=Q∧pr=ps):=by
 have h:=iOk hp;have k:=iOk hq
 constructor
 · intro e
   unfold eF at e;cases he:eV P G L pr<;>cases hf:eV Q H M ps
   · rw [if_pos ⟨hp,he⟩,if_pos ⟨hq,hf⟩] at e
     exact JW h k e
   · rw [if_pos ⟨hp,he⟩,if_neg (by rw [hf];simp)] at e
     exact absurd e (rU h)
   · rw [if_neg (by rw [he];simp),if_pos ⟨hq,hf⟩] at e
     exact absurd e.symm (rU k)
   · obtain ⟨rfl,rfl,rfl,rfl⟩:=uP h he
     obtain ⟨rfl,rfl,rfl,rfl⟩:=uP k hf;exact ⟨rfl,rfl,rfl,rfl⟩
 · rintro ⟨rfl,rfl,rfl,rfl⟩
   rfl
theorem OT {P:Mn} {G:List Nd} {L:List Dr}:erI P G L=0↔eE P G L=true:=by
 unfold erI
 split
 · rename_i h
   exact ⟨fun _=>h,fun _=>rfl⟩
 · rename_i h
   exact ⟨fun q=>(by cases q),fun q=>absurd q h⟩
end Go.Proofs.YtlmpiohbmlddiaaGreatDoor
namespace Go.Proofs.YtlmpiohbmlddiaaGreatDoor
open Go.RowKit
set_option maxRecDepth 100000
theorem kJ {B:Nat} {w w':World} (h:Below B w w') (n:Nat):Below B w (w'.drewN n):=⟨h.os,h.tape,h.output,h.size,h.block⟩
set_option maxHeartbeats 6400000 in
theorem DN {A B:List Dr} {va vb:Value} {w:World} (ha:DirsAt w va A) (hb:DirsAt w vb B) (hA:A.length≤1000000000000) (hf:∀ d ∈ A,d.pa.length≤9223372036854775807∧PgZ d.pk):
 Calls Tryz.prog 14 #[.agg #[va],.agg #[vb]] w fun e w'=>e= .returned (.bool (eqB A B))∧Below w.heap.size w w':=by
 obtain ⟨ad,ca,rfl,hca,hea⟩:=ha.sl;obtain ⟨bd,cb,rfl,hcb,heb⟩:=hb.sl
 have HDA:Hid (∀ w1,Below w.heap.size w w1→∀ i (hi:i<A.length),∃ g o,ad=some ⟨g,o,none⟩∧∃ u v1 v2 v3,DrIn w1 g (o+i*9) A[i] u v1 v2 v3):=fun w1 h1 i hi=>by
  obtain ⟨g,o,e,u,v1,v2,v3,hd⟩:=hea i hi;exact ⟨g,o,e,u,v1,v2,v3,hd.below h1⟩
 have HDB:Hid (∀ w1,Below w.heap.size w w1→∀ i (hi:i<B.length),∃ g o,bd=some ⟨g,o,none⟩∧∃ u v1 v2 v3,DrIn w1 g (o+i*9) B[i] u v1 v2 v3):=fun w1 h1 i hi=>by
  obtain ⟨g,o,e,u,v1,v2,v3,hd⟩:=heb i hi;exact ⟨g,o,e,u,v1,v2,v3,hd.below h1⟩
 have HF:=aB hf;have HW:Hid (∀ w1,Below ((w.alloc (.cells #[.slice ad A.length ca] 30)).alloc (.cells #[.slice bd B.length cb] 30)).heap.size ((w.alloc (.cells #[.slice ad A.length ca] 30)).alloc (.cells #[.slice bd B.length cb] 30)) w1→Below w.heap.size w w1∧BxT w1 w.heap.size (.slice ad A.length ca)∧BxT w1 (w.heap.size+1) (.slice bd B.length cb)):=fun w1 h1=>⟨aA (aN _ _ _) h1,bQ _ _ _ _ (bQ _ _ _ _ (BxT.new _ _) (aD _ _)) h1,bQ _ _ _ _ (by have q:=BxT.new (w.alloc (.cells #[.slice ad A.length ca] 30)) (.slice bd B.length cb);rw [show (w.alloc (.cells #[.slice ad A.length ca] 30)).heap.size=w.heap.size+1 by simp] at q;exact q) h1⟩
 clear ha hb hea heb hf hca hcb;generalize hW0:((w.alloc (.cells #[.slice ad A.length ca] 30)).alloc (.cells #[.slice bd B.length cb] 30))=W0 at*;obtain ⟨hb0,⟨x0,x1⟩,y0,y1⟩:=HW.out W0 (Below.refl _ _);have HB0:=aB hb0;clear hb0
 by_cases hl:A.length=B.length
 · have HL:=aB hl
   have hln:((A.length:Int) != (B.length:Int))=false:=by rw [hl];simp
   clear hl
   go_enter Tryz.func14,Tryz.ntmps14
   go_wp2_with fail
   clear x0 x1 y0 y1 hW0 hln
   go_loopw [5] (fun vi wr=>∃ i:Nat,i≤A.length∧vi= .int .i64 i∧Below W0.heap.size W0 wr∧∀ q (_:q<i) (hq:q<A.length) (hp:q<B.length),A[q]=B[q]) (fun vi _=>A.length - (intOf vi).toNat)
   case atStart=>exact ⟨0,Nat.zero_le _,rfl,Below.refl _ _,fun q hq=>by omega⟩
   case round=>
    obtain ⟨i,hil,rfl,hbr,hall⟩:=hrel;have HALL:=aB hall;have HBR:=aB hbr;obtain ⟨hbw,⟨x0,x1⟩,y0,y1⟩:=HW.out wr hbr;have HBW:=aB hbw;clear hall
    by_cases hlt:i<A.length
    · have hlb:i<B.length:=by have:=HL.out;omega
      have hii:(i:Int)<A.length:=by omega
      have hij:(i:Int)<B.length:=by omega
      obtain ⟨g,o,rfl,u,v1,v2,v3,hd⟩:=HDA.out wr hbw i hlt;obtain ⟨g2,o2,rfl,x,y1',y2',y3',hd2⟩:=HDB.out wr hbw i hlb;have hfi:=HF.out _ (List.getElem_mem hlt);have HPT:Hid (∀ w1,Below wr.heap.size wr w1→Calls Tryz.prog 47 #[u,x] w1 fun e w'=>e= .returned (.bool (eqB A[i].pa B[i].pa))∧Below w1.heap.size w1 w'):=fun w1 h1=>IY (hd.2.1.1.below h1) (hd2.2.1.1.below h1) hfi.1
      have HSM:Hid (∀ w1,Below wr.heap.size wr w1→Calls Tryz.prog 48 #[.agg #[.string A[i].pk.nm,.int .i64 A[i].pk.a,.int .i64 A[i].pk.b,.int .i64 A[i].pk.c,v1,v2,v3],.agg #[.string B[i].pk.nm,.int .i64 B[i].pk.a,.int .i64 B[i].pk.b,.int .i64 B[i].pk.c,y1',y2',y3']] w1 fun e w'=>e= .returned (.bool (eqB A[i].pk B[i].pk))∧Below w1.heap.size w1 w'):=fun w1 h1=>zW (hd.2.1.2.below h1) (hd2.2.1.2.below h1) hfi.2.1 hfi.2.2.1 hfi.2.2.2
      have HYES:Hid (eqB A[i].pa B[i].pa=true→eqB A[i].pk B[i].pk=true→A[i].nd=B[i].nd→∀ q (_:q<i+1) (hq:q<A.length) (hp:q<B.length),A[q]=B[q]):=fun h1 h2 h3 q h4 h5 h6=>by
       rcases Nat.lt_or_ge q i with h7|h7
       · exact HALL.out q h7 h5 h6
       · obtain rfl:q=i:=by omega
         have e1:=cH.1 h1;have e2:=cH.1 h2;revert e1 e2 h3;generalize A[q]=d;generalize B[q]=e;intro h3 e1 e2;obtain ⟨a,b,c⟩:=d;obtain ⟨a',b',c'⟩:=e
         simp only at h3 e1 e2
         rw [h3,e1,e2]
      have HNO:Hid (¬ (eqB A[i].pa B[i].pa=true∧eqB A[i].pk B[i].pk=true∧A[i].nd=B[i].nd)→eqB A B=false):=fun h=>bJ fun e=>h (by
       have q:=List.getElem_of_eq e hlt;rw [q];exact ⟨aO rfl,aO rfl,rfl⟩)
      obtain ⟨ua,uc,rfl⟩:=hd.2.1.1.sl;obtain ⟨a1,c1,rfl⟩:=hd.2.1.2.1.sl;obtain ⟨a2,c2,rfl⟩:=hd.2.1.2.2.1.sl;obtain ⟨a3,c3,rfl⟩:=hd.2.1.2.2.2.sl;obtain ⟨xa,xc,rfl⟩:=hd2.2.1.1.sl;obtain ⟨b1,e1,rfl⟩:=hd2.2.1.2.1.sl;obtain ⟨b2,e2,rfl⟩:=hd2.2.1.2.2.1.sl;obtain ⟨b3,e3,rfl⟩:=hd2.2.1.2.2.2.sl;have HK:Hid (KeepP fun w9=>Below wr.heap.size wr w9∧(BxT w9 w.heap.size (.slice (some ⟨g,o,none⟩) A.length ca)∧BxT w9 (w.heap.size+1) (.slice (some ⟨g2,o2,none⟩) B.length cb))∧DrIn w9 g (o+i*9) A[i] (.slice ua A[i].pa.length uc) (.slice a1 A[i].pk.d.length c1) (.slice a2 A[i].pk.p.length c2) (.slice a3 A[i].pk.o.length c3)∧DrIn w9 g2 (o2+i*9) B[i] (.slice xa B[i].pa.length xc) (.slice b1 B[i].pk.d.length e1) (.slice b2 B[i].pk.p.length e2) (.slice b3 B[i].pk.o.length e3)):=(aH wr).and (((bQ _ _).and (bQ _ _)).and ((mY _ _ _ _ _ _ _).and (mY _ _ _ _ _ _ _)))
      have HO:Hid (Below wr.heap.size wr wr∧(BxT wr w.heap.size (.slice (some ⟨g,o,none⟩) A.length ca)∧BxT wr (w.heap.size+1) (.slice (some ⟨g2,o2,none⟩) B.length cb))∧DrIn wr g (o+i*9) A[i] (.slice ua A[i].pa.length uc) (.slice a1 A[i].pk.d.length c1) (.slice a2 A[i].pk.p.length c2) (.slice a3 A[i].pk.o.length c3)∧DrIn wr g2 (o2+i*9) B[i] (.slice xa B[i].pa.length xc) (.slice b1 B[i].pk.d.length e1) (.slice b2 B[i].pk.p.length e2) (.slice b3 B[i].pk.o.length e3)):=⟨Below.refl _ _,⟨⟨x0,x1⟩,y0,y1⟩,hd,hd2⟩;clear hd hd2 hbw hbr hfi;generalize eqB A[i].pa B[i].pa=r1 at*;generalize eqB A[i].pk B[i].pk=r2 at*;have HND:Hid ((A[i].nd != B[i].nd)=false→A[i].nd=B[i].nd):=fun h=>by simpa using h
      have HNN:Hid ((A[i].nd != B[i].nd)=true→¬ A[i].nd=B[i].nd):=fun h=>by simpa using h
      go_wp2_with fail
      clear x0 x1 y0 y1;refine bP HK (by kernel_rfl) (by kernel_rfl) (by first|exact HO.out|exact HK.out.drew HO.out) ?_;intro C HIN HOUT;clear HO
      repeat
       (with_reducible refine wpQuiet_step (fun K hK=> ?_)
        go_simp
        first
         |(refine hK _ ?_;clear hK K)
         |(apply Exists.intro;refine ⟨fun w1 hC=> ?_,hK _ ?_⟩;(focus ((first|(go_at_call 47;with_reducible exact bE HIN HOUT HK (fun w1 hk=>HPT.out w1 hk.1) w1 hC)|(exact rfl)|(obtain ⟨hb1,⟨⟨b0,bb0⟩,d0,dd0⟩,⟨⟨p0,p1,p2,p3,p4,p5,p6,p7,p8⟩,_,p9⟩,⟨⟨q0,q1,q2,q3,q4,q5,q6,q7,q8⟩,_,q9⟩⟩:=HOUT.out w1 hC;clear hC;go_simp;first|done|exact rfl));done));clear hK K))
      refine wpQuiet_nil ?_;intro wn hC;have HO:=aB (HOUT.out _ hC);clear hC HIN HOUT C;obtain ⟨hb1,⟨⟨b0,bb0⟩,d0,dd0⟩,⟨⟨p0,p1,p2,p3,p4,p5,p6,p7,p8⟩,_,p9⟩,⟨⟨q0,q1,q2,q3,q4,q5,q6,q7,q8⟩,_,q9⟩⟩:=HO.out;clear hb1 b0 bb0 d0 dd0 p0 p1 p2 p3 p4 p5 p6 p7 p8 p9 q0 q1 q2 q3 q4 q5 q6 q7 q8 q9
      go_wp2_with fail
      refine bP HK (by kernel_rfl) (by kernel_rfl) (by first|exact HO.out|exact HK.out.drew HO.out) ?_;intro C HIN HOUT;clear HO
      repeat
       (with_reducible refine wpQuiet_step (fun K hK=> ?_)
        go_simp
        first
         |(refine hK _ ?_;clear hK K)
         |(apply Exists.intro;refine ⟨fun w1 hC=> ?_,hK _ ?_⟩;(focus ((first|(go_at_call 48;with_reducible exact bE HIN HOUT HK (fun w1 hk=>HSM.out w1 hk.1) w1 hC)|(exact rfl)|(obtain ⟨hb1,⟨⟨b0,bb0⟩,d0,dd0⟩,⟨⟨p0,p1,p2,p3,p4,p5,p6,p7,p8⟩,_,p9⟩,⟨⟨q0,q1,q2,q3,q4,q5,q6,q7,q8⟩,_,q9⟩⟩:=HOUT.out w1 hC;clear hC;go_simp;first|done|exact rfl));done));clear hK K))
      refine wpQuiet_nil ?_;intro wm hC;have HO:=aB (HOUT.out _ hC);clear hC HIN HOUT C;obtain ⟨hb1,⟨⟨b0,bb0⟩,d0,dd0⟩,⟨⟨p0,p1,p2,p3,p4,p5,p6,p7,p8⟩,_,p9⟩,⟨⟨q0,q1,q2,q3,q4,q5,q6,q7,q8⟩,_,q9⟩⟩:=HO.out;have HBM:=aB (aA HBR.out hb1);have HBN:=aB (aA HBW.out hb1);clear hb1 HPT HSM HK HO HBW HDA HDB HF HW HB0;cases r1
      · have HE:Hid (eqB A B=false):=HNO.out fun q=>by cases q.1
        clear HNO HYES HND HNN
        go_wp2_with fail
        go_quiet (fail)
        go_wp2
        go_ret;exact ⟨aC HE.out.symm,kJ HBN.out _⟩
      · cases r2
        · have HE:Hid (eqB A B=false):=HNO.out fun q=>by cases q.2.1
          clear HNO HYES HND HNN
          go_wp2_with fail
          go_quiet (fail)
          go_wp2
          go_ret;exact ⟨aC HE.out.symm,kJ HBN.out _⟩
        · cases hnd:(A[i].nd != B[i].nd)
          · have HY:=aB (HYES.out rfl rfl (HND.out hnd))
            clear HNO HYES HND HNN
            go_wp2_with fail
            go_quiet (fail)
            go_wp2
            exact ⟨⟨i+1,by omega,by go_num,kJ HBM.out _,HY.out⟩,by simp [intOf];omega⟩
          · have HE:Hid (eqB A B=false):=HNO.out fun q=>HNN.out hnd q.2.2
            clear HNO HYES HND HNN
            go_wp2_with fail
            go_quiet (fail)
            go_wp2
            go_ret;exact ⟨aC HE.out.symm,kJ HBN.out _⟩
    · obtain rfl:i=A.length:=by omega
      have HE:Hid (eqB A B=true):=aO (List.ext_getElem HL.out fun q h1 h2=>HALL.out q h1 h1 h2);clear hbw hbr
      go_wp2
      go_ret;exact ⟨aC HE.out.symm,HBW.out⟩
 · have HE:Hid (eqB A B=false):=bJ fun e=>hl (by rw [e])
   have hln:((A.length:Int) != (B.length:Int))=true:=by simp;omega
   clear hl
   go_enter Tryz.func14,Tryz.ntmps14
   go_wp2
   go_ret;exact ⟨aC HE.out.symm,HB0.out⟩
theorem OU (fs:List Fi):(fs.flatMap dT).length=fs.length*3:=by
 induction fs with
 |nil=>rfl
 |cons x fs ih=>rw [List.flatMap_cons,List.length_append,ih,List.length_cons];simp [dT];omega
end Go.Proofs.YtlmpiohbmlddiaaGreatDoor
namespace Go.Proofs.YtlmpiohbmlddiaaGreatDoor
open Go.RowKit Go.Maps Go.WideMaps
set_option maxRecDepth 100000
theorem RD {w:World} {B:Nat} {v:Value} {ts:List Fi} (h:OwnFi w B v ts):(v= .slice none 0 0∧ts=[])∨∃ g cap,v= .slice (some ⟨g,0,none⟩) ts.length cap∧ts.length≤cap∧g<w.heap.size∧B≤g∧∀ j u,(ts.flatMap dT)[j]? =some u→w.cell? ⟨g,j,none⟩=some u:=by
 rcases h.2 with ⟨e,hn⟩|⟨g,cap,cur,rfl,hB,hgg,hc,_,_,ht⟩
 · exact Or.inl ⟨e,List.length_eq_zero_iff.1 hn⟩
 · refine Or.inr ⟨g,cap,rfl,hc,(Array.getElem?_eq_some_iff.1 hgg).1,hB,fun j u hj=> ?_⟩
   have hjl:j<ts.length*3:=by
    have:=(List.getElem?_eq_some_iff.1 hj).1
    rwa [OU] at this
   exact (World.ownsRow.cellAt h j hjl).trans hj
theorem wJ (ts:List Fi) (i:Nat) (hi:i<ts.length):(ts.flatMap dT)[i*3]? =some (.string ts[i].pa)∧(ts.flatMap dT)[i*3+1]? =some (.bool ts[i].dr)∧(ts.flatMap dT)[i*3+2]? =some (.string ts[i].da):=by
 haveI:Inhabited Fi:=⟨⟨⟨#[]⟩,false,⟨#[]⟩⟩⟩
 have h:=fun r hr=>gK dT 3 (fun _=>rfl) ts i r hi hr
 rw [getElem!_pos ts i hi] at h;exact ⟨(h 0 (by decide)).trans rfl,(h 1 (by decide)).trans rfl,(h 2 (by decide)).trans rfl⟩
end Go.Proofs.YtlmpiohbmlddiaaGreatDoor
