/- Tr4, Ts8, Iz3, Ps1b, Ps4, Ps7, Ps8, Io1, Dk1: their declarations that are needed, laid in one text, remarks and blanks left out. -/
import Derived.Laws.StructEq
import Derived.Maps.Ext
import Derived.RegionTactic
import Derived.ChangeAlike
import Derived.Test.YtlmpiohbmlddiaaGreatDoorMd17
namespace Go.Proofs.YtlmpiohbmlddiaaGreatDoor
open Go.RowKit
set_option maxRecDepth 100000
def Ext (st st':MS):Prop:=st'.m.length=st.m.length∧(∀ j,0≤st.m.getD j (-1)→st'.m.getD j (-1)=st.m.getD j (-1))∧∃ t,st'.q=st.q++t
theorem Ext.refl (st:MS):Ext st st:=⟨rfl,fun _ _=>rfl,[],by simp⟩
theorem Ext.trans {a b c:MS} (h:Ext a b) (h2:Ext b c):Ext a c:=by
 obtain ⟨t,ht⟩:=h.2.2;obtain ⟨u,hu⟩:=h2.2.2;refine ⟨h2.1.trans h.1,fun j hj=> ?_,t++u,by rw [hu,ht,List.append_assoc]⟩;rw [h2.2.1 j (by rw [h.2.1 j hj];exact hj),h.2.1 j hj]
def OkE (L:List Dr) (G:List Nd) (st:MS) (r:Nat) (e:Eg):Prop:=∃ k:Nat,bE L (r:Int) e.lb=k∧st.m.getD k (-1)=e.to∧eN (L.getD k drZ) (G.getD e.to.toNat ndZ)=true
theorem OkE.ext {L:List Dr} {G:List Nd} {st st':MS} {r:Nat} {e:Eg} (h:OkE L G st r e) (hx:Ext st st') (h0:0<e.to):OkE L G st' r e:=by
 obtain ⟨k,h1,h2,h3⟩:=h;exact ⟨k,h1,by rw [hx.2.1 k (by rw [h2];omega),h2],h3⟩
def BD (st:MS):Prop:=∀ j,0≤st.m.getD j (-1)→j ∈ st.q
theorem pU {l:List Int} {k:Nat} {a b:Int} (h:k<l.length):l.getD k a=l.getD k b:=by rw [bH h,bH h]
theorem iK {l:List Int} {k:Nat} {x:Int} (hk:k<l.length) (j:Nat):(l.set k x).getD j (-1)=if k=j then x else l.getD j (-1):=by
 rw [List.getD_eq_getElem?_getD,List.getElem?_set]
 by_cases h:k=j
 · subst h
   rw [if_pos rfl,if_pos rfl,if_pos hk];rfl
 · rw [if_neg h,if_neg h,List.getD_eq_getElem?_getD]
theorem OU {L:List Dr} {G:List Nd} {r:Nat} {st st':MS} {e:Eg} (hi:MInv L G st) (hq:BD st) (ht:0<e.to∧e.to<(G.length:Int)) (h:gC L G r st e=some st'):MInv L G st'∧BD st'∧Ext st st'∧OkE L G st' r e:=by
 unfold gC at h;have hlt:=oI L (r:Int) e.lb
 split at h
 · cases h
 · rename_i hn
   obtain ⟨k,hk⟩:∃ k:Nat,bE L (r:Int) e.lb=k:=⟨(bE L (r:Int) e.lb).toNat,by omega⟩;rw [hk] at h hlt;rw [Int.toNat_natCast] at h;have hkm:k<st.m.length:=by rw [hi.len];omega
   split at h
   · cases h
   · rename_i hio
     have hiso:eN (L.getD k drZ) (G.getD e.to.toNat ndZ)=true:=by
      cases hb:eN (L.getD k drZ) (G.getD e.to.toNat ndZ) with
      |true=>rfl
      |false=>exact absurd hb hio
     split at h
     · rename_i hx
       obtain rfl:=Option.some.inj h;rw [bH hkm] at hx;refine ⟨hi.set hkm hx ht.1 ht.2,fun j hj=> ?_,⟨by simp,fun j hj=> ?_,[k],rfl⟩,k,hk,?_,hiso⟩
       · rw [iK hkm] at hj
         by_cases hkj:k=j
         · subst hkj;simp
         · rw [if_neg hkj] at hj
           exact List.mem_append_left _ (hq j hj)
       · show (st.m.set k e.to).getD j (-1)=_
         rw [iK hkm]
         by_cases hkj:k=j
         · subst hkj
           rw [bH hkm] at hj;omega
         · rw [if_neg hkj]
       · show (st.m.set k e.to).getD k (-1)=_
         rw [iK hkm,if_pos rfl]
     · split at h
       · rename_i hxe
         obtain rfl:=Option.some.inj h;exact ⟨hi,hq,Ext.refl _,k,hk,by rw [pU (b:=0) hkm];exact hxe,hiso⟩
       · cases h
theorem xO {L:List Dr} {G:List Nd} {r:Nat}:∀ {es:List Eg} {st st':MS},MInv L G st→BD st→(∀ e ∈ es,0<e.to∧e.to<(G.length:Int))→fE L G r es st=some st'→MInv L G st'∧BD st'∧Ext st st'∧∀ e ∈ es,OkE L G st' r e
 |[],st,st',hi,hq,_,h=>by
  obtain rfl:=Option.some.inj h;exact ⟨hi,hq,Ext.refl _,fun e he=>by cases he⟩
 |e::es,st,st',hi,hq,ht,h=>by
  unfold fE at h;cases hs:gC L G r st e with
  |none=>rw [hs] at h;cases h
  |some s1=>
   rw [hs] at h;obtain ⟨h1,h2,h3,h4⟩:=OU hi hq (ht e List.mem_cons_self) hs;obtain ⟨k1,k2,k3,k4⟩:=xO h1 h2 (fun x hx=>ht x (List.mem_cons_of_mem _ hx)) h;refine ⟨k1,k2,h3.trans k3,fun x hx=> ?_⟩
   rcases List.mem_cons.1 hx with rfl|hx
   · exact h4.ext k3 (ht x List.mem_cons_self).1
   · exact k4 x hx
theorem OV {G:List Nd} {st st':MS} {r:Nat} (h:Ext st st') (h0:0≤st.m.getD r (-1)) (hr:r<st.m.length):fF G st' r=fF G st r:=by
 unfold fF;have hr':r<st'.m.length:=by rw [h.1];exact hr
 have e:st'.m.getD r 0=st.m.getD r 0:=by
  rw [pU (b:= -1) hr',pU (b:= -1) hr];exact h.2.1 r h0
 rw [e]
theorem LS {L:List Dr} {G:List Nd} (hl:cX G=true):∀ {n i:Nat} {st:MS} {m:List Int},MInv L G st→BD st→(∀ p r,p<i→st.q[p]? =some r→∀ e ∈ fF G st r,OkE L G st r e)→jS L G n i st=some m→∃ st',st'.m=m∧MInv L G st'∧Ext st st'∧BD st'∧∀ r ∈ st'.q,∀ e ∈ fF G st' r,OkE L G st' r e
 |0,_,_,_,_,_,_,h=>by cases h
 |n+1,i,st,m,hi,hq,hok,h=>by
  cases hs:st.q[i]? with
  |none=>
   rw [DC hs] at h;refine ⟨st,Option.some.inj h,hi,Ext.refl _,hq,fun r hr e he=> ?_⟩;obtain ⟨p,hp,rfl⟩:=List.getElem_of_mem hr;have hlen:st.q.length≤i:=List.getElem?_eq_none_iff.1 hs;exact hok p _ (by omega) (List.getElem?_eq_getElem hp) e he
  |some r=>
   rw [KG hs] at h;cases hx:fE L G r (fF G st r) st with
   |none=>rw [hx] at h;cases h
   |some s1=>
    rw [hx] at h;have hrq:r ∈ st.q:=List.mem_of_getElem? hs;obtain ⟨hrm,hr0⟩:=hi.qin r hrq
    have hG:(st.m.getD r 0).toNat<G.length:=by
     rw [bH hrm]
     rcases hi.each r hrm with hh|hh<;>omega
    have hto:∀ e ∈ fF G st r,0<e.to∧e.to<(G.length:Int):=fun e he=>by
     unfold fF at he;rw [bH hG] at he;exact (kS hl).2 _ (List.getElem_mem hG) e he
    obtain ⟨h1,h2,h3,h4⟩:=xO hi hq hto hx
    have hval:∀ x ∈ st.q,x<st.m.length∧0≤st.m.getD x (-1):=fun x hxq=>by
     obtain ⟨a,b⟩:=hi.qin x hxq;exact ⟨a,by rw [bH a];exact b⟩
    obtain ⟨t,ht⟩:=h3.2.2
    obtain ⟨s2,k1,k2,k3,k4,k5⟩:=LS hl (n:=n) (i:=i+1) (st:=s1) (m:=m) h1 h2 (fun p x hp hpx e he=>by
     have hiq:i<st.q.length:=(List.getElem?_eq_some_iff.1 hs).1
     have hpx':st.q[p]? =some x:=by
      rw [ht,List.getElem?_append_left (by omega)] at hpx;exact hpx
     obtain ⟨a,b⟩:=hval x (List.mem_of_getElem? hpx');rw [OV h3 b a] at he
     rcases Nat.lt_or_ge p i with hpi|hpi
     · have hG2:(st.m.getD x 0).toNat<G.length:=by
        rw [bH a];rw [bH a] at b
        rcases hi.each x a with hh|hh<;>omega
       have ht2:0<e.to:=by
        unfold fF at he;rw [bH hG2] at he;exact ((kS hl).2 _ (List.getElem_mem hG2) e he).1
       exact (hok p x hpi hpx' e he).ext h3 ht2
     · obtain rfl:p=i:=by omega
       obtain rfl:r=x:=Option.some.inj (hs.symm.trans hpx');exact h4 e he) h
    exact ⟨s2,k1,k2,h3.trans k3,k4,k5⟩
theorem lX {L:List Dr} {G:List Nd} {m:List Int} (hL:0<L.length) (hl:cX G=true) (h:fG L G=some m):
 m.length=L.length∧(∃ h0:0<m.length,m[0]=0)∧(∀ j (hj:j<m.length),m[j]= -1∨(0≤m[j]∧m[j]<(G.length:Int)))∧
  ∀ i y (hi:i<m.length) (_hy:m[i]=((y:Nat):Int)) (hyG:y<G.length),∀ e ∈ G[y].ed,∃ (k z:Nat) (hk:k<L.length) (hkm:k<m.length) (hz:z<G.length),bE L (i:Int) e.lb=k∧e.to=z∧m[k]=z∧L[k].pk.nm=G[z].nm∧L[k].pk.a=G[z].a∧L[k].pk.b=G[z].b∧L[k].pk.c=G[z].c:=by
 have hG:=(kS hl).1
 have hq0:BD (cK L.length):=fun j hj=>by
  unfold cK at hj ⊢;rw [iK (by simpa using hL)] at hj
  by_cases h0:0=j
  · subst h0;simp
  · rw [if_neg h0,List.getD_eq_getElem?_getD,List.getElem?_replicate] at hj
    split at hj
    · exact absurd hj (by decide)
    · exact absurd hj (by decide)
 obtain ⟨st,rfl,h1,h2,h3,h4⟩:=LS hl (MInv.start hL hG) hq0 (fun p r hp=>by omega) h;have hlen:=h1.len;refine ⟨hlen,⟨by omega,?_⟩,h1.each,fun i y hi hy hyG e he=> ?_⟩
 · have e0:(cK L.length).m.getD 0 (-1)=0:=by
    unfold cK;rw [iK (by simpa using hL),if_pos rfl]
   have:=h2.2.1 0 (by rw [e0];exact Int.le_refl _)
   rw [e0,bH (by omega)] at this;exact this
 · have hiq:i ∈ st.q:=h3 i (by rw [bH hi,hy];omega)
   have he2:e ∈ fF G st i:=by
    unfold fF;rw [bH hi,hy,Int.toNat_natCast,bH hyG];exact he
   obtain ⟨k,k1,k2,k3⟩:=h4 i hiq e he2;have ht:=(kS hl).2 _ (List.getElem_mem hyG) e he;have hlt:=oI L (i:Int) e.lb;have hkL:k<L.length:=by omega
   have hkm:k<st.m.length:=by omega
   obtain ⟨z,hz⟩:∃ z:Nat,e.to=z:=⟨e.to.toNat,by omega⟩;have hzG:z<G.length:=by omega
   rw [hz,Int.toNat_natCast,bH hkL,bH hzG] at k3;rw [bH hkm,hz] at k2;unfold eN at k3;simp only [Bool.and_eq_true,decide_eq_true_eq,eO] at k3;exact ⟨k,z,hkL,hkm,hzG,k1,hz,k2,k3.1,k3.2.1.1,k3.2.1.2,k3.2.2⟩
theorem sG {w:World} {B:Nat} {v:Value} {l:List Int} (h:OwnI w B v l):∃ a c,v= .slice a l.length c∧∀ j (_:j<l.length),∃ g,a=some ⟨g,0,none⟩∧InI w g j l[j]:=by
 have h0:=h
 rcases h.2 with ⟨rfl,hn⟩|⟨g,cap,cur,rfl,hB,hg,hc,_⟩
 · exact ⟨none,0,by rw [hn],fun j hj=>by omega⟩
 · refine ⟨_,cap,rfl,fun j hj=>⟨g,rfl,?_⟩⟩
   have e:=World.ownsRow.cellAt h0 j (by omega);have e2:(gS l)[j]? =some (.int .i64 l[j]):=by simp [gS,hj]
   exact ⟨e.trans e2,(World.ownsRow.lt h0 g rfl).2⟩
theorem pV {L:List Dr} {G:List Nd} (h:gU L G=0):(dQ L G).length=L.length:=by
 obtain ⟨h1,h2,h3⟩:=eT h;unfold dQ;rw [if_pos ⟨h1,h2⟩];cases hm:fG L G with
 |none=>rw [hm] at h3;cases h3
 |some m=>exact (lX (cJ.1 h1).1.1 h2 hm).1
theorem DU (N:Nat) (x1 x2 x3 x4 xg xt:Value) (pr:Bool):KeepP fun W=>StB W N x1 x2 x3 x4 xg xt pr:=fun _ _ h hb=>h.keep hb
theorem aN {w:World} {N i j:Nat} {u x:Value} (h:i≠j) (hx:w.cell? ⟨N,j,none⟩=some x):(w.setCell ⟨N,i,none⟩ u).cell? ⟨N,j,none⟩=some x:=(World.cell?_setCell_other _ _ _ _ (fun e=>by cases e;exact h rfl)).trans hx
theorem LT {w:World} {N:Nat} {x0 x1 x2 x3 x4 x5 x6:Value} (j0:w.cell? ⟨N,0,none⟩=some x0) (j1:w.cell? ⟨N,1,none⟩=some x1) (j2:w.cell? ⟨N,2,none⟩=some x2) (j3:w.cell? ⟨N,3,none⟩=some x3) (j4:w.cell? ⟨N,4,none⟩=some x4) (j5:w.cell? ⟨N,5,none⟩=some x5) (j6:w.cell? ⟨N,6,none⟩=some x6) (u0 u1 u2 u3 u4 u5 u6:Value):
 (((((((w.setCell ⟨N,0,none⟩ u0).setCell ⟨N,1,none⟩ u1).setCell ⟨N,2,none⟩ u2).setCell ⟨N,3,none⟩ u3).setCell ⟨N,4,none⟩ u4).setCell ⟨N,5,none⟩ u5).setCell ⟨N,6,none⟩ u6).cell? ⟨N,0,none⟩=some u0∧(((((((w.setCell ⟨N,0,none⟩ u0).setCell ⟨N,1,none⟩ u1).setCell ⟨N,2,none⟩ u2).setCell ⟨N,3,none⟩ u3).setCell ⟨N,4,none⟩ u4).setCell ⟨N,5,none⟩ u5).setCell ⟨N,6,none⟩ u6).cell? ⟨N,1,none⟩=some u1∧(((((((w.setCell ⟨N,0,none⟩ u0).setCell ⟨N,1,none⟩ u1).setCell ⟨N,2,none⟩ u2).setCell ⟨N,3,none⟩ u3).setCell ⟨N,4,none⟩ u4).setCell ⟨N,5,none⟩ u5).setCell ⟨N,6,none⟩ u6).cell? ⟨N,2,none⟩=some u2∧(((((((w.setCell ⟨N,0,none⟩ u0).setCell ⟨N,1,none⟩ u1).setCell ⟨N,2,none⟩ u2).setCell ⟨N,3,none⟩ u3).setCell ⟨N,4,none⟩ u4).setCell ⟨N,5,none⟩ u5).setCell ⟨N,6,none⟩ u6).cell? ⟨N,3,none⟩=some u3∧(((((((w.setCell ⟨N,0,none⟩ u0).setCell ⟨N,1,none⟩ u1).setCell ⟨N,2,none⟩ u2).setCell ⟨N,3,none⟩ u3).setCell ⟨N,4,none⟩ u4).setCell ⟨N,5,none⟩ u5).setCell ⟨N,6,none⟩ u6).cell? ⟨N,4,none⟩=some u4∧(((((((w.setCell ⟨N,0,none⟩ u0).setCell ⟨N,1,none⟩ u1).setCell ⟨N,2,none⟩ u2).setCell ⟨N,3,none⟩ u3).setCell ⟨N,4,none⟩ u4).setCell ⟨N,5,none⟩ u5).setCell ⟨N,6,none⟩ u6).cell? ⟨N,5,none⟩=some u5∧(((((((w.setCell ⟨N,0,none⟩ u0).setCell ⟨N,1,none⟩ u1).setCell ⟨N,2,none⟩ u2).setCell ⟨N,3,none⟩ u3).setCell ⟨N,4,none⟩ u4).setCell ⟨N,5,none⟩ u5).setCell ⟨N,6,none⟩ u6).cell? ⟨N,6,none⟩=some u6:=by
 exact ⟨aN (by decide) (aN (by decide) (aN (by decide) (aN (by decide) (aN (by decide) (aN (by decide) (World.cell?_setCell_same _ _ _ (j0))))))),aN (by decide) (aN (by decide) (aN (by decide) (aN (by decide) (aN (by decide) (World.cell?_setCell_same _ _ _ (aN (by decide) (j1))))))),aN (by decide) (aN (by decide) (aN (by decide) (aN (by decide) (World.cell?_setCell_same _ _ _ (aN (by decide) (aN (by decide) (j2))))))),aN (by decide) (aN (by decide) (aN (by decide) (World.cell?_setCell_same _ _ _ (aN (by decide) (aN (by decide) (aN (by decide) (j3))))))),aN (by decide) (aN (by decide) (World.cell?_setCell_same _ _ _ (aN (by decide) (aN (by decide) (aN (by decide) (aN (by decide) (j4))))))),aN (by decide) (World.cell?_setCell_same _ _ _ (aN (by decide) (aN (by decide) (aN (by decide) (aN (by decide) (aN (by decide) (j5))))))),World.cell?_setCell_same _ _ _ (aN (by decide) (aN (by decide) (aN (by decide) (aN (by decide) (aN (by decide) (aN (by decide) (j6)))))))⟩
theorem cM {w w':World} {N B:Nat} {u0 u1 u2 u3 u4 u5 u6:Value} (hN:B≤N) (h:Below B w w'):Below B w (((((((w'.setCell ⟨N,0,none⟩ u0).setCell ⟨N,1,none⟩ u1).setCell ⟨N,2,none⟩ u2).setCell ⟨N,3,none⟩ u3).setCell ⟨N,4,none⟩ u4).setCell ⟨N,5,none⟩ u5).setCell ⟨N,6,none⟩ u6):=
 (((((((h.setCell (p:=⟨N,0,none⟩) hN _).setCell (p:=⟨N,1,none⟩) hN _).setCell (p:=⟨N,2,none⟩) hN _).setCell (p:=⟨N,3,none⟩) hN _).setCell (p:=⟨N,4,none⟩) hN _).setCell (p:=⟨N,5,none⟩) hN _).setCell (p:=⟨N,6,none⟩) hN _)
theorem TC {w:World} {N g:Nat} {u0 u1 u2 u3 u4 u5 u6:Value} (h:g≠N):(((((((w.setCell ⟨N,0,none⟩ u0).setCell ⟨N,1,none⟩ u1).setCell ⟨N,2,none⟩ u2).setCell ⟨N,3,none⟩ u3).setCell ⟨N,4,none⟩ u4).setCell ⟨N,5,none⟩ u5).setCell ⟨N,6,none⟩ u6).heap[g]? =w.heap[g]? :=
 (Below.heap_setCell _ _ _ _ h).trans ((Below.heap_setCell _ _ _ _ h).trans ((Below.heap_setCell _ _ _ _ h).trans ((Below.heap_setCell _ _ _ _ h).trans ((Below.heap_setCell _ _ _ _ h).trans ((Below.heap_setCell _ _ _ _ h).trans ((Below.heap_setCell _ _ _ _ h)))))))
def QE (ws:List Sc.Bs):Int:=if ws.head? =some [112,97,99,107,97,103,101]∧ws.length=3 then (if Sc.aG (ws.getD 1 [])=true then (if okP (Sc.ba (ws.getD 2 []))=true then 0 else 20) else 23) else 22
def pkW:List Sc.Bs:=[[110,101,101,100,115],[98,101,115,105,100,101],[108,105,107,101,115]]
def LV:List (List Sc.Bs)→Int
 |[]=>22
 |h::r=>if QE h=0 then (jG pkW 0 [[],[],[]] r).1 else QE h
def LW:List (List Sc.Bs)→Pg
 |[]=>⟨⟨#[]⟩,0,0,0,[],[],[]⟩
 |h::r=>⟨Sc.ba (h.getD 1 []),zI (Sc.ba (h.getD 2 [])),zJ (Sc.ba (h.getD 2 [])),zK (Sc.ba (h.getD 2 [])),(jG pkW 0 [[],[],[]] r).2.getD 0 [],(jG pkW 0 [[],[],[]] r).2.getD 1 [],(jG pkW 0 [[],[],[]] r).2.getD 2 []⟩
def OwnP (w:World) (B:Nat) (P:Pg) (v1 v2 v3:Value):Prop:=∃ q1 q2 q3,(OwnD w B v1 q1∧q1.map (·.1)=P.d)∧(OwnD w B v2 q2∧q2.map (·.1)=P.p)∧(OwnD w B v3 q3∧q3.map (·.1)=P.o)
theorem OwnP.below {w w':World} {B:Nat} {P:Pg} {v1 v2 v3:Value} (h:OwnP w B P v1 v2 v3) (hb:Below w.heap.size w w'):OwnP w' B P v1 v2 v3:=by
 obtain ⟨q1,q2,q3,h1,h2,h3⟩:=h;exact ⟨q1,q2,q3,⟨h1.1.below hb,h1.2⟩,⟨h2.1.below hb,h2.2⟩,h3.1.below hb,h3.2⟩
theorem OwnP.base {w:World} {B C:Nat} {P:Pg} {v1 v2 v3:Value} (h:OwnP w B P v1 v2 v3) (hc:C≤B):OwnP w C P v1 v2 v3:=by
 obtain ⟨q1,q2,q3,h1,h2,h3⟩:=h;exact ⟨q1,q2,q3,⟨h1.1.base hc,h1.2⟩,⟨h2.1.base hc,h2.2⟩,h3.1.base hc,h3.2⟩
theorem OwnP.at {w:World} {B:Nat} {P:Pg} {v1 v2 v3:Value} (h:OwnP w B P v1 v2 v3):PgAt w P v1 v2 v3:=by
 obtain ⟨q1,q2,q3,h1,h2,h3⟩:=h;exact ⟨h1.2 ▸ h1.1.at,h2.2 ▸ h2.1.at,h3.2 ▸ h3.1.at⟩
noncomputable def LX (t:ByteArray):Int:=if Sc.zZ t 4096=0 then (if LV (Sc.jO t 4096)=0 then (if aS (LW (Sc.jO t 4096))=true then 0 else 24) else LV (Sc.jO t 4096)) else Sc.zZ t 4096
def LY (t:ByteArray):Pg:=LW (Sc.jO t 4096)
end Go.Proofs.YtlmpiohbmlddiaaGreatDoor
namespace Go.Proofs.YtlmpiohbmlddiaaGreatDoor
open Go.RowKit Go.Lib Go.Sort
set_option maxRecDepth 100000
structure IOk (P:Mn) (G:List Nd) (L:List Dr):Prop where
 man:aM P=true
 lok:Lo.dM G=true
 chk:bR L=true
 led:cX G=true
 srt:pT L=true
 nds:L.map Dr.nd=dQ L G
theorem iOk {P:Mn} {G:List Nd} {L:List Dr} (h:dN P G L=true):IOk P G L:=by
 have hz:=eT (iW h);unfold dN at h;simp only [Bool.and_eq_true] at h;exact ⟨h.1.1,h.1.2,hz.1,hz.2.1,h.2.2.1,eO.1 h.2.2.2⟩
theorem IOk.ok {P:Mn} {G:List Nd} {L:List Dr} (h:IOk P G L):TrOk L:=OK h.chk
theorem IOk.root {P:Mn} {G:List Nd} {L:List Dr} (h:IOk P G L) (h0:0<L.length):L[0]=drZ:=by
 have q:=(cJ.1 h.chk).2.1;rw [kN h0] at q;unfold jF at q;rw [Bool.and_eq_true,Bool.and_eq_true,decide_eq_true_iff,decide_eq_true_iff,eO] at q;obtain ⟨⟨q1,q2⟩,q3⟩:=q;have q4:=List.eq_nil_of_length_eq_zero q1;revert q2 q3 q4;generalize L[0]=d;intro q2 q3 q4;obtain ⟨a,b,c⟩:=d
 simp only at q2 q3 q4
 rw [q2,q3,q4];rfl
theorem OW {pr:Bool} {L:List Dr} {d:Dr}:Ca.pkg d ∈ caD pr L↔d ∈ L.drop 1:=by
 rw [AN];simp only [List.mem_append]
 constructor
 · rintro ((h|h)|h)
   · rcases kU h with q|q|q<;>cases q
   · split at h
     · rw [List.mem_singleton] at h
       cases h
     · cases h
   · obtain ⟨e,he,hd⟩:=List.mem_flatMap.1 h
     unfold pE at hd
     rcases List.mem_append.1 hd with q|q
     · simp at q
       rw [q];exact he
     · split at q
       · rw [List.mem_singleton] at q
         cases q
       · cases q
 · intro h
   exact Or.inr (List.mem_flatMap.2 ⟨d,h,by unfold pE;simp⟩)
theorem BE {G:List Nd} (h:Lo.dM G=true) (h1:G.length=1):G=[ndZ]:=by
 match G,h1 with
 |[n],_=>
  unfold Lo.dM at h;simp only [Bool.and_eq_true,decide_eq_true_eq,List.all_eq_true] at h;obtain ⟨⟨⟨_,h2⟩,_⟩,h4⟩:=h;have h5:=h4 n (by simp);obtain ⟨nm,a,b,c,cx,ed⟩:=n;unfold Lo.fI at h2;simp only [Bool.and_eq_true,decide_eq_true_eq] at h2;obtain ⟨⟨h6,rfl,rfl,rfl⟩,h7⟩:=h2;obtain rfl:=List.eq_nil_of_length_eq_zero h7
  have hed:ed=[]:=by
   cases ed with
   |nil=>rfl
   |cons e r=>
    unfold Lo.cB Lo.mX at h5;simp only [Bool.and_eq_true,decide_eq_true_eq,List.length_nil] at h5;omega
  subst hed
  have hnm:nm=⟨#[]⟩:=by
   obtain ⟨⟨l⟩⟩:=nm
   have:l.length=0:=h6
   rw [List.eq_nil_of_length_eq_zero this]
  rw [hnm];rfl
theorem GC {P:Mn} {G:List Nd} {L:List Dr} {pr:Bool} (h:IOk P G L) (he:eL P G L pr=true):L=[drZ]∧G=[ndZ]∧P=gI∧pr=false:=by
 unfold eL at he;simp only [Bool.and_eq_true,beq_iff_eq,Bool.not_eq_true',eO] at he;obtain ⟨h1,h2,h3,h4⟩:=he;refine ⟨?_,BE h.lok (by omega),h1,h4⟩;have hl:L.length=1:=by omega
 have h0:=h.root (by omega);obtain ⟨d,rfl⟩:=List.length_eq_one_iff.1 hl;exact congrArg (fun x=>[x]) h0
theorem RU {P:Mn} {G:List Nd} {L:List Dr}:erI P G L=0↔dN P G L=true:=by
 unfold erI
 split
 · rename_i h
   exact ⟨fun _=>h,fun _=>rfl⟩
 · rename_i h
   exact ⟨fun q=>(by cases q),fun q=>absurd q h⟩
end Go.Proofs.YtlmpiohbmlddiaaGreatDoor
namespace Go.Proofs.YtlmpiohbmlddiaaGreatDoor.Dk
open Go.RowKit
open Go.RowKit Go.Maps Go.WideMaps Go.WideElems
set_option maxRecDepth 100000
open Go.RowKit Go.Maps Go.WideMaps Go.WideElems Go.Sort Go.Shelf
def dC (b:UInt8):Bool:=(decide (97≤b.toNat)&&decide (b.toNat≤122))||(decide (48≤b.toNat)&&decide (b.toNat≤57))||b.toNat==46||b.toNat==45
def bL (l:List UInt8):Bool:= !(l.length==0)&&decide (l.length≤24)&& !(l==[46])&& !(l==[46,46])&&l.all dC
theorem aC {a b:Bool} (h:a=b):Ending.returned (.bool a)= .returned (.bool b):=by rw [h]
set_option maxHeartbeats 400000 in
theorem iL (b:UInt8) (w:World):
 Calls Tryz.prog 194 #[.int .u8 (b.toNat:Int)] w fun e w'=>e= .returned (.bool (dC b))∧w'=w:=by
 go_enter Tryz.func194,Tryz.ntmps194
 go_wp2
 all_goals
  go_ret;refine ⟨aC ?_,rfl⟩;rw [Bool.eq_iff_iff];simp [dC];omega
theorem dD (s:ByteArray):s.data.toList.length=s.size:=rfl
theorem OX {p:UInt8→Bool} {l:List UInt8} (h:∀ i (hi:i<l.length),p l[i]=true):l.all p=true:=by
 rw [List.all_eq_true];intro x hx;obtain ⟨i,hi,rfl⟩:=List.getElem_of_mem hx;exact h i hi
theorem nG {p:UInt8→Bool} {l:List UInt8} (i:Nat) (hi:i<l.length) (h:p l[i]=false):l.all p=false:=by
 rw [Bool.eq_false_iff];intro ha;rw [List.all_eq_true] at ha
 have:=ha _ (List.getElem_mem hi)
 rw [h] at this;cases this
theorem eF (s:ByteArray):s.toList=s.data.toList:=ByteArray.toList_eq s
set_option maxHeartbeats 400000 in
theorem pW (s:ByteArray) (w:World) (hs:s.size≤maxLen):
 Calls Tryz.prog 151 #[.string s] w fun e w'=>e= .returned (.bool (bL s.data.toList))∧w'=w:=by
 unfold maxLen at hs
 by_cases h0:s.size=0
 · have HP:Hid (bL s.data.toList=false):=by unfold Hid bL;rw [dD];simp [h0]
   go_enter Tryz.func151,Tryz.ntmps151
   go_wp2
   go_ret;exact ⟨aC HP.out.symm,rfl⟩
 by_cases h24:24<s.size
 · have HP:Hid (bL s.data.toList=false):=by
    unfold Hid bL;rw [dD]
    have:decide (s.size≤24)=false:=by simp;omega
    rw [this];simp
   go_enter Tryz.func151,Tryz.ntmps151
   go_wp2
   go_ret;exact ⟨aC HP.out.symm,rfl⟩
 have b0:((s.size:Int)==0)=false:=beq_eq_false_iff_ne.2 (by omega);have b24:decide (24<(s.size:Int))=false:=by simp;omega
 have i24:s.size≤24:=by omega
 clear h0 h24
 by_cases h1:(s.toList==[46])=true
 · have HP:Hid (bL s.data.toList=false):=by
    unfold Hid bL;rw [←eF,h1];simp
   go_enter Tryz.func151,Tryz.ntmps151
   go_wp2
   go_ret;exact ⟨aC HP.out.symm,rfl⟩
 rw [Bool.not_eq_true] at h1
 by_cases h2:(s.toList==[46,46])=true
 · have HP:Hid (bL s.data.toList=false):=by
    unfold Hid bL;rw [←eF,h2];simp
   go_enter Tryz.func151,Tryz.ntmps151
   go_wp2
   go_ret;exact ⟨aC HP.out.symm,rfl⟩
 rw [Bool.not_eq_true] at h2
 have HP:Hid (bL s.data.toList=s.data.toList.all dC):=by
  unfold Hid bL;rw [←eF,h1,h2,eF,dD]
  have:decide (s.size≤24)=true:=by simp;omega
  have e0:(s.size==0)=false:=beq_eq_false_iff_ne.2 (by have:=beq_eq_false_iff_ne.1 b0;omega);rw [this,e0];simp
 go_enter Tryz.func151,Tryz.ntmps151
 go_wp2_with fail
 go_loop [22] (fun i=>∃ k:Nat,k≤s.size∧i= .int .i64 k∧∀ j (hj:j<k) (hj':j<s.size),dC s[j]=true) (fun i=>s.size - (intOf i).toNat)
 case atStart=>exact ⟨0,Nat.zero_le _,rfl,fun j hj=>absurd hj (Nat.not_lt_zero _)⟩
 case round=>
  obtain ⟨k,hk,rfl,hall⟩:=hrel;have HA:Hid (∀ j (hj:j<k) (hj':j<s.size),dC s[j]=true):=hall;clear hall
  by_cases hlt:k<s.size
  · by_cases hb:dC s[k]=true
    · go_wp2_with (go_at_call 194;refine (iL _ _).mono ?_;rintro e w' ⟨rfl,rfl⟩)
      refine ⟨⟨k+1,by omega,by go_num,fun j hj hj'=> ?_⟩,by simp [intOf];omega⟩
      by_cases e:j=k
      · subst e;exact hb
      · exact HA.out j (by omega) hj'
    · rw [Bool.not_eq_true] at hb
      go_wp2_with (go_at_call 194;refine (iL _ _).mono ?_;rintro e w' ⟨rfl,rfl⟩)
      go_ret;exact ⟨aC (by rw [HP.out,nG k hlt hb]),rfl⟩
  · go_wp2
    go_ret;exact ⟨aC (by rw [HP.out,OX (fun j hj=>HA.out j (by rw [dD] at hj;omega) hj)]),rfl⟩
def eG:ByteArray:=⟨#[47]⟩
def bU (s:ByteArray):ByteArray:=if Lib.lastIndexByte s 47=0 then ⟨#[47]⟩ else s.extract 0 (Lib.lastIndexByte s 47).toNat
def BF (s:ByteArray):ByteArray:=s.extract ((Lib.lastIndexByte s 47).toNat+1) s.size
theorem OY (s:ByteArray):Lib.lastIndexByte s 47<s.size∨Lib.lastIndexByte s 47= -1:=by
 rcases Lib.lastIdx_spec s 47 s.size with ⟨h,_⟩|⟨i,hi,h,_⟩
 · exact Or.inr h
 · refine Or.inl ?_
   unfold Lib.lastIndexByte;rw [h];omega
set_option maxHeartbeats 400000 in
theorem BG (s:ByteArray) (w:World) (hs:s.size≤4096) (h1:1≤s.size) (hi:Lib.lastIndexByte s 47=0):
 Calls Tryz.prog 103 #[.string s] w fun e w'=>e= .returned (.tuple #[.string ⟨#[47]⟩,.string (s.extract 1 s.size)])∧w'=w.drew:=by
 have HI:Hid (Lib.lastIndexByte s 47=0):=hi;clear hi
 go_enter Tryz.func103,Tryz.ntmps103
 go_wp2_with (go_at_call 129;refine (Tryz.strings_LastIndexByte _ _ (by omega) _).mono ?_;rintro e w' ⟨rfl,rfl⟩;rw [HI.out])
 go_region
 go_wp2
 go_ret2;exact ⟨rfl,rfl⟩
set_option maxHeartbeats 400000 in
theorem GD (s:ByteArray) (i:Nat) (w:World) (hs:s.size≤4096) (h0:0<i) (h1:i<s.size) (hi:Lib.lastIndexByte s 47=i):
 Calls Tryz.prog 103 #[.string s] w fun e w'=>e= .returned (.tuple #[.string (s.extract 0 i),.string (s.extract (i+1) s.size)])∧w'=w.drew:=by
 have HI:Hid (Lib.lastIndexByte s 47=i):=hi;clear hi;have hb:((i:Int)==0)=false:=beq_eq_false_iff_ne.2 (by omega)
 go_enter Tryz.func103,Tryz.ntmps103
 go_wp2_with (go_at_call 129;refine (Tryz.strings_LastIndexByte _ _ (by omega) _).mono ?_;rintro e w' ⟨rfl,rfl⟩;rw [HI.out])
 go_region
 go_wp2
 go_ret2;exact ⟨rfl,rfl⟩
theorem GE (s:ByteArray) (w:World) (hs:s.size≤4096) (hi:0≤Lib.lastIndexByte s 47):
 Calls Tryz.prog 103 #[.string s] w fun e w'=>e= .returned (.tuple #[.string (bU s),.string (BF s)])∧w'=w.drew:=by
 have hl:=OY s
 by_cases h:Lib.lastIndexByte s 47=0
 · have:=BG s w hs (by omega) h
   unfold bU BF;rw [if_pos h,h];exact this
 · have:=GD s (Lib.lastIndexByte s 47).toNat w hs (by omega) (by omega) (by omega)
   unfold bU BF;rw [if_neg h];exact this
def eH (s:ByteArray):Bool:=s.toList==[47]||(decide (s.size≤4096)&&Lib.hasPrefix s.data.toList [47]&&(Lib.splitB eG 0 (Lib.countB (s.extract 1 s.size) eG) (s.extract 1 s.size)).all fun p=>bL p.data.toList)
theorem mO (sep:ByteArray) (B:Nat):∀ (k:Nat) (s:ByteArray),s.size≤B→∀ p ∈ Lib.splitB sep 0 k s,p.size≤B
 |0,s,h,p,hp=>by
  rw [Lib.splitB_zero] at hp;simp only [List.mem_singleton] at hp;subst hp;exact h
 |k+1,s,h,p,hp=>by
  unfold Lib.splitB at hp
  split at hp
  · simp only [List.mem_singleton] at hp
    subst hp;exact h
  · rcases List.mem_cons.1 hp with rfl|hp
    · simp only [ByteArray.size_extract];omega
    · exact mO sep B k _ (by simp only [ByteArray.size_extract];omega) p hp
theorem LZ {α:Type} {p:α→Bool} {l:List α} (h:∀ i (hi:i<l.length),p l[i]=true):l.all p=true:=by
 rw [List.all_eq_true];intro x hx;obtain ⟨i,hi,rfl⟩:=List.getElem_of_mem hx;exact h i hi
theorem MA {α:Type} {p:α→Bool} {l:List α} (i:Nat) (hi:i<l.length) (h:p l[i]=false):l.all p=false:=by
 rw [Bool.eq_false_iff];intro ha;rw [List.all_eq_true] at ha
 have:=ha _ (List.getElem_mem hi)
 rw [h] at this;cases this
def nI (L:List ByteArray):Bool:=L.all fun p=>bL p.data.toList
theorem BH (w:World) (L:List ByteArray) (t:TypeId) (k:Nat) (hk:k<L.length):(w.alloc (.cells (L.map Value.string).toArray t)).cell? ⟨w.heap.size,k,none⟩=some (.string L[k]):=by
 rw [World.cell?_alloc_new];simp [hk]
set_option maxHeartbeats 400000 in
theorem BI (s:ByteArray) (m:Int) (w:World) (hm:w.cell? ⟨0,0,none⟩=some (.int .i64 m)):
 Calls Tryz.prog 102 #[.string s] w fun e w'=>e= .returned (.bool (eH s))∧Below w.heap.size w w':=by
 by_cases h1:(s.toList==[47])=true
 · have HP:Hid (eH s=true):=by unfold Hid eH;rw [h1];rfl
   go_enter Tryz.func102,Tryz.ntmps102
   go_wp2
   go_ret;exact ⟨aC HP.out.symm,Below.refl _ _⟩
 rw [Bool.not_eq_true] at h1
 by_cases h2:4096<s.size
 · have HP:Hid (eH s=false):=by
    have:decide (s.size≤4096)=false:=by simp;omega
    unfold Hid eH;rw [h1,this];rfl
   go_enter Tryz.func102,Tryz.ntmps102
   go_wp2
   go_ret;exact ⟨aC HP.out.symm,Below.refl _ _⟩
 have b2:decide (4096<(s.size:Int))=false:=by simp;omega
 have i2:s.size≤4096:=by omega
 clear h2
 by_cases h3:Lib.hasPrefix s.data.toList [47]=true
 · have hsp:=Tryz.strings_Split (s.extract 1 s.size) eG m w (by simp only [ByteArray.size_extract];omega) hm (by decide)
   have hlen:=Lib.splitB_all eG (by decide) 0 _ (s.extract 1 s.size) rfl;have hsz:=mO eG 4096 (Lib.countB (s.extract 1 s.size) eG) (s.extract 1 s.size) (by simp only [ByteArray.size_extract];omega)
   have h11:1≤s.size:=by
    rcases Nat.eq_zero_or_pos s.size with h|h
    · exfalso
      have:s.data.toList=[]:=List.eq_nil_of_length_eq_zero (by rw [dD];exact h)
      rw [this] at h3;exact absurd h3 (by decide)
    · exact h
   have HP:Hid (eH s=nI (Lib.splitB eG 0 (Lib.countB (s.extract 1 s.size) eG) (s.extract 1 s.size))):=by
    have:decide (s.size≤4096)=true:=by simp;omega
    unfold Hid eH nI;rw [h1,h3,this];rfl
   rw [←hlen] at hsp;generalize Lib.splitB eG 0 (Lib.countB (s.extract 1 s.size) eG) (s.extract 1 s.size)=L at*
   have hL:L.length≤4097:=by
    rw [hlen]
    have:=Lib.countB_le eG (by decide) _ (s.extract 1 s.size) (Nat.le_refl _)
    simp only [ByteArray.size_extract] at this;omega
   have HS:Hid (∀ p ∈ L,p.size≤4096):=hsz;clear hsz hlen;have hsp2:Calls Tryz.prog 150 #[.string (s.extract 1 s.size),.string ⟨#[47]⟩] w fun e w'=>e= .returned (.slice (some ⟨w.heap.size,0,none⟩) L.length L.length)∧w'=w.alloc (.cells (L.map Value.string).toArray 9):=hsp
   clear hsp
   go_enter Tryz.func102,Tryz.ntmps102
   go_wp2_with (first
    |(go_at_call 149;refine (Tryz.strings_HasPrefix _ _ _).mono ?_;rintro e w' ⟨rfl,rfl⟩)
    |(go_at_call 150;refine hsp2.mono ?_;rintro e w' ⟨rfl,rfl⟩))
   go_loop [19] (fun i=>∃ k:Nat,k≤L.length∧i= .int .i64 k∧∀ j (hj:j<k) (hj':j<L.length),bL L[j].data.toList=true) (fun i=>L.length - (intOf i).toNat)
   case atStart=>exact ⟨0,Nat.zero_le _,rfl,fun j hj=>absurd hj (Nat.not_lt_zero _)⟩
   case round=>
    obtain ⟨k,hk,rfl,hall⟩:=hrel;have HA:Hid (∀ j (hj:j<k) (hj':j<L.length),bL L[j].data.toList=true):=hall;clear hall
    by_cases hlt:k<L.length
    · have hsk:L[k].size≤maxLen:=by
       have:=HS.out _ (List.getElem_mem hlt)
       unfold maxLen;omega
      have HK:Hid (L[k].size≤maxLen):=hsk;clear hsk;obtain ⟨P,hP⟩:∃ P,P=L[k]:=⟨_,rfl⟩;have hc:=BH w' L 9 k hlt;rw [←hP] at hc HK;have HPe:Hid (P=L[k]):=hP;clear hP
      by_cases hb:bL P.data.toList=true
      · go_wp2_with (go_at_call 151;refine (pW _ _ HK.out).mono ?_;rintro e w' ⟨rfl,rfl⟩)
        refine ⟨⟨k+1,by omega,by go_num,fun j hj hj'=> ?_⟩,by simp [intOf];omega⟩
        by_cases e:j=k
        · subst e;rw [←HPe.out];exact hb
        · exact HA.out j (by omega) hj'
      · rw [Bool.not_eq_true] at hb
        go_wp2_with (go_at_call 151;refine (pW _ _ HK.out).mono ?_;rintro e w' ⟨rfl,rfl⟩)
        go_ret;exact ⟨aC (by rw [HP.out];unfold nI;rw [MA k hlt (by rw [←HPe.out];exact hb)]),(Below.refl _ _).alloc (Nat.le_refl _) _⟩
    · go_wp2
      go_ret;exact ⟨aC (by rw [HP.out];unfold nI;rw [LZ (fun j hj=>HA.out j (by omega) hj)]),(Below.refl _ _).alloc (Nat.le_refl _) _⟩
 rw [Bool.not_eq_true] at h3;have HP:Hid (eH s=false):=by unfold Hid eH;rw [h1,h3];simp
 go_enter Tryz.func102,Tryz.ntmps102
 go_wp2_with (go_at_call 149;refine (Tryz.strings_HasPrefix _ _ _).mono ?_;rintro e w' ⟨rfl,rfl⟩)
 go_ret;exact ⟨aC HP.out.symm,Below.refl _ _⟩
def hI (v:Value):Option (DataW Unit×List MemPlace):=
 match v with
 | .agg ⟨[.bool b,.string s]⟩=>if s.size≤maxLen then some (.agg [.lit (.bool b),.lit (.string s.data.toList)],[]) else none
 |_=>none
def jH (b:Bool) (s:ByteArray):DataW Unit:= .agg [.lit (.bool b),.lit (.string s.data.toList)]
theorem xP {b:Bool} {s:ByteArray} (hs:s.size≤maxLen):hI (.agg #[.bool b,.string s])=some (jH b s,[]):=by
 simp [hI,jH,hs]
theorem GF {v:Value} {z:DataW Unit×List MemPlace} (h:hI v=some z):∃ b s,v= .agg #[.bool b,.string s]∧z=(jH b s,[])∧s.size≤maxLen:=by
 unfold hI at h
 split at h
 · next b s=>
   split at h
   · next hs=>exact ⟨b,s,rfl,(Option.some.inj h).symm,hs⟩
   · cases h
 · cases h
theorem QF:Keyed Tryz.prog 9:=string_keyed Tryz.underlying9
theorem MB (w:World):(zeroValue 110).run Tryz.prog w= .ok (.agg #[.bool false,.string ByteArray.empty]) w:=by kernel_rfl
def dS (s:ByteArray):Lit:= .string s.data.toList
def pX:DataW Unit:=jH false ByteArray.empty
theorem sH {s:ByteArray} (hs:s.size≤maxLen):keyOf Tryz.prog 9 (.string s)=some (dS s):=keyOf_string_mk Tryz.underlying9 hs
theorem GG {P:Program} (w:World) {ops:Array Oper} {rest:List Oper} {o:Oper} {a:Act} {Q:Exit→Act→World→Prop} (hg:o.guard=none) (m x:Operand) (t:TypeId) (hop:o.op=Op.lookup t m x true)
 (k e:TypeId) (K:Keyed P k) (ht:P.underlying t=some (.map k e)) (hz:(zeroValue e).run P w= .ok (.agg #[.bool false,.string ByteArray.empty]) w) (b n:Nat) (D:DataW Unit)
 (hm:a.eval m= .map (some b)) (hown:w.ownsMap P k hI b n D) (key:Value) (kl:Lit) (hx:a.eval x=key) (hkey:keyOf P k key=some kl)
 (hK:∀ (c:Bool) (s:ByteArray),D.atKey kl pX=jH c s→s.size≤maxLen→wpList P ops Q rest (a.put o.dst (.tuple #[.agg #[.bool c,.string s],.bool (Maps.has D kl)])) w):
 wpList P ops Q (o::rest) a w:=
 wpList_lookup_own_ok w hg m x t hop k e K ht hI hz pX [] (xP (by decide)) b n D hm hown key kl hx hkey (fun v ps hv=>by
  obtain ⟨c,s,rfl,h2,h3⟩:=GF hv;exact hK c s (congrArg Prod.fst h2) h3)
def MC:DataW Unit→Bool
 | .agg [.lit (.bool b),_]=>b
 |_=>false
theorem MD (b:Bool) (s:ByteArray):MC (jH b s)=b:=rfl
def bS (D:DataW Unit) (s:ByteArray):Int:=
 if (s.toList==[47])=true then 2 else if Maps.has D (dS s)=true then (if MC (D.atKey (dS s) pX)=true then 2 else 1) else 0
structure Upd (F:Nat→Prop) (w w':World):Prop where
 os:w'.os=w.os
 tape:w'.tape=w.tape
 output:w'.output=w.output
 size:w.heap.size≤w'.heap.size
 block:∀ k,k<w.heap.size→¬ F k→w'.heap[k]? =w.heap[k]?
theorem Upd.of_below {F:Nat→Prop} {w w':World} (h:Below w.heap.size w w'):Upd F w w':=⟨h.os,h.tape,h.output,h.size,fun i hi _=>h.block i hi⟩
theorem Upd.below {F:Nat→Prop} {B:Nat} {w w':World} (h:Upd F w w') (hB:B≤w.heap.size) (hF:∀ i,F i→B≤i):Below B w w':=
 ⟨h.os,h.tape,h.output,h.size,fun i hi=>h.block i (by omega) (fun f=>by have:=hF i f;omega)⟩
theorem Upd.of_grown {w w':World} {row:Option Nat} (h:w.grownBy w' row):Upd (fun k=>row=some k) w w':=⟨h.os,h.tape,h.output,h.size,fun i hi hn=>h.block i hi (fun e=>hn e.symm)⟩
theorem Upd.mono {F G:Nat→Prop} {w w':World} (h:Upd F w w') (hG:∀ i,i<w.heap.size→F i→G i):Upd G w w':=⟨h.os,h.tape,h.output,h.size,fun i hi hn=>h.block i hi (fun f=>hn (hG i hi f))⟩
structure Ab where
 D:DataW Unit
 rs:List (Int×ByteArray×ByteArray)
 left:Int
def ME (rs:List (Int×ByteArray×ByteArray)):List Value:=rs.flatMap fun r=>[.int .i64 r.1,.string r.2.1,.string r.2.2]
def bT (s:ByteArray):Bool:=eH s&& !(s.toList==[47])
structure IsDisk (B:Nat) (w:World) (d mb n:Nat) (rv:Value) (x:Ab):Prop where
 c0:w.cell? ⟨d,0,none⟩=some (.map (some mb))
 c1:w.cell? ⟨d,1,none⟩=some rv
 c2:w.cell? ⟨d,2,none⟩=some (.int .i64 x.left)
 f1:w.frozen? ⟨d,1,none⟩=false
 f2:w.frozen? ⟨d,2,none⟩=false
 own:w.ownsMap Tryz.prog 9 hI mb n x.D
 row:w.ownsRow B 360 3 rv x.rs.length (ME x.rs)
 rd:rv.ownBlock≠some d
 rm:rv.ownBlock≠some mb
 dm:d≠mb
 bd:B≤d
 bm:B≤mb
 ld:d<w.heap.size
 keys:∀ kl,Maps.has x.D kl=true→∃ s,kl=dS s∧bT s=true
def TD (d mb:Nat) (rv:Value) (k:Nat):Prop:=k=d∨k=mb∨rv.ownBlock=some k
theorem mP {F:Nat→Prop} {w w':World} {B:Nat} {e:TypeId} {size:Nat} {v:Value} {n:Nat} {xs:List Value} (h:w.ownsRow B e size v n xs) (hu:Upd F w w') (hF:∀ k,v.ownBlock=some k→¬ F k):w'.ownsRow B e size v n xs:=by
 obtain ⟨h1,h2⟩:=h;refine ⟨h1,?_⟩
 rcases h2 with h2|⟨g,cap,cur,hv,hg,hh,r⟩
 · exact Or.inl h2
 · refine Or.inr ⟨g,cap,cur,hv,hg,?_,r⟩
   have hl:g<w.heap.size:=(Array.getElem?_eq_some_iff.1 hh).1;rw [hu.block g hl (hF g (by rw [hv];rfl))];exact hh
theorem xQ {F:Nat→Prop} {w w':World} {mb n:Nat} {D:DataW Unit} (h:w.ownsMap Tryz.prog 9 hI mb n D) (hu:Upd F w w') (hF:¬ F mb):w'.ownsMap Tryz.prog 9 hI mb n D:=by
 have hl:=h.lt;obtain ⟨es,clock,hb,r⟩:=h;exact ⟨es,clock,by rw [hu.block mb hl hF];exact hb,r⟩
theorem IsDisk.upd {F:Nat→Prop} {B:Nat} {w w':World} {d mb n:Nat} {rv:Value} {x:Ab} (h:IsDisk B w d mb n rv x) (hu:Upd F w w') (hF:∀ k,TD d mb rv k→¬ F k):IsDisk B w' d mb n rv x:=by
 have hb:=hu.block d h.ld (hF d (Or.inl rfl))
 exact { c0:=by rw [World.cell?_of_block (w:=w) hb];exact h.c0,c1:=by rw [World.cell?_of_block (w:=w) hb];exact h.c1,c2:=by rw [World.cell?_of_block (w:=w) hb];exact h.c2,
         f1:=by rw [World.frozen?_of_block (w:=w) hb];exact h.f1,f2:=by rw [World.frozen?_of_block (w:=w) hb];exact h.f2,
         own:=xQ h.own hu (hF mb (Or.inr (Or.inl rfl))),row:=mP h.row hu (fun k hk=>hF k (Or.inr (Or.inr hk))),
         rd:=h.rd,rm:=h.rm,dm:=h.dm,bd:=h.bd,bm:=h.bm,ld:=Nat.lt_of_lt_of_le h.ld hu.size,keys:=h.keys }
theorem IsDisk.below {B:Nat} {w w':World} {d mb n:Nat} {rv:Value} {x:Ab} (h:IsDisk B w d mb n rv x) (hu:Below w.heap.size w w'):IsDisk B w' d mb n rv x:=
 h.upd (Upd.of_below (F:=fun _=>False) hu) (fun _ _ f=>f)
theorem bP {a b:Int} (h:a=b):Ending.returned (.int .i64 a)= .returned (.int .i64 b):=by rw [h]
theorem TE {a c:Bool} (h:(!a)=true):(0:Int)=if a=true then (if c=true then 2 else 1) else 0:=by cases a<;>simp_all
theorem RV {a c:Bool} (h:(!a)=false) (hc:c=true):(2:Int)=if a=true then (if c=true then 2 else 1) else 0:=by cases a<;>simp_all
theorem OZ {a c:Bool} (h:(!a)=false) (hc:c=false):(1:Int)=if a=true then (if c=true then 2 else 1) else 0:=by cases a<;>simp_all
set_option maxHeartbeats 400000 in
theorem pY {B:Nat} {w:World} {d mb n:Nat} {rv:Value} {x:Ab} (h:IsDisk B w d mb n rv x) (s:ByteArray) (hs:s.size≤maxLen):
 Calls Tryz.prog 51 #[.pointer (some ⟨d,0,none⟩),.string s] w fun e w'=>e= .returned (.int .i64 (bS x.D s))∧Below w.heap.size w w':=by
 have c0:=h.c0;have hown:=h.own;have HKY:Hid (keyOf Tryz.prog 9 (.string s)=some (dS s)):=sH hs;have HO:Hid (w.ownsMap Tryz.prog 9 hI mb n x.D):=hown;clear h hs hown
 by_cases h1:(s.toList==[47])=true
 · have HP:Hid (bS x.D s=2):=by unfold Hid bS;rw [if_pos h1]
   go_enter Tryz.func51,Tryz.ntmps51
   go_wp2
   go_ret;exact ⟨bP HP.out.symm,Below.refl _ _⟩
 rw [Bool.not_eq_true] at h1;have HK:Hid (bS x.D s=if Maps.has x.D (dS s)=true then (if MC (x.D.atKey (dS s) pX)=true then 2 else 1) else 0):=by unfold Hid bS;rw [if_neg (by rw [h1];decide)]
 go_enter Tryz.func51,Tryz.ntmps51
 go_wp2_with (at_lookup;refine GG _ rfl _ _ 111 rfl 9 110 QF Tryz.underlying111 (MB _) mb n x.D rfl HO.out _ _ rfl HKY.out ?_;intro c t hat hts;have HA:Hid (x.D.atKey (dS s) pX=jH c t):=hat;clear hat hts)
 all_goals
  go_ret;refine ⟨bP ?_,(Below.refl _ _).alloc (Nat.le_refl _) _⟩;rw [HK.out,HA.out,MD]
  first
   |exact TE ‹_›
   |exact RV ‹_› ‹_›
   |exact OZ ‹_› ‹_›
set_option maxHeartbeats 400000 in
theorem MF (w:World):Calls Tryz.prog 49 #[] w fun e w'=>e= .returned (.pointer (some ⟨w.heap.size+1,0,none⟩))∧
 w'=(w.alloc (.map #[] 0)).alloc (.cells #[.map (some w.heap.size),.slice none 0 0,.int .i64 (-1)] 113):=by
 have hmm:= @run_makeMap Tryz.prog
 go_enter Tryz.func49,Tryz.ntmps49
 go_wp2
 go_ret;exact ⟨rfl,rfl⟩
def MG:Ab:={ D:= .map [],rs:=[],left:= -1 }
theorem MH {w:World} {B:Nat} (hB:B≤w.heap.size):IsDisk B ((w.alloc (.map #[] 0)).alloc (.cells #[.map (some w.heap.size),.slice none 0 0,.int .i64 (-1)] 113)) (w.heap.size+1) w.heap.size 0 (.slice none 0 0) MG:=by
 have hsz:(w.alloc (.map #[] 0)).heap.size=w.heap.size+1:=by simp
 have cell:∀ i v,(#[Value.map (some w.heap.size),.slice none 0 0,.int .i64 (-1)])[i]? =some v→((w.alloc (.map #[] 0)).alloc (.cells #[.map (some w.heap.size),.slice none 0 0,.int .i64 (-1)] 113)).cell? ⟨w.heap.size+1,i,none⟩=some v:=by
  intro i v h
  have:=World.cell?_alloc_new (w:=w.alloc (.map #[] 0)) #[.map (some w.heap.size),.slice none 0 0,.int .i64 (-1)] 113 i
  rw [hsz] at this;rw [this];exact h
 have fz:∀ i,((w.alloc (.map #[] 0)).alloc (.cells #[.map (some w.heap.size),.slice none 0 0,.int .i64 (-1)] 113)).frozen? ⟨w.heap.size+1,i,none⟩=false:=by
  intro i
  have e:((w.alloc (.map #[] 0)).alloc (.cells #[.map (some w.heap.size),.slice none 0 0,.int .i64 (-1)] 113)).heap[w.heap.size+1]? =some (.cells #[.map (some w.heap.size),.slice none 0 0,.int .i64 (-1)] 113 (0,0)):=by
   show ((w.heap.push _).push _)[w.heap.size+1]? =_;rw [Array.getElem?_push,if_pos (by simp)]
  unfold World.frozen?;simp only [e]
  simp
 exact { c0:=cell 0 _ rfl,c1:=cell 1 _ rfl,c2:=cell 2 _ rfl,f1:=fz 1,f2:=fz 2,
         own:=(World.ownsMap_made w Tryz.prog 9 hI).alloc _,row:=⟨rfl,Or.inl ⟨rfl,rfl⟩⟩,
         rd:=by simp [Value.ownBlock],rm:=by simp [Value.ownBlock],dm:=by omega,bd:=by omega,bm:=hB,
         ld:=by simp,keys:=fun kl h=>by simp [MG,Maps.has] at h }
theorem sI (w:World):Below w.heap.size w ((w.alloc (.map #[] 0)).alloc (.cells #[.map (some w.heap.size),.slice none 0 0,.int .i64 (-1)] 113)):=
 ((Below.refl _ _).alloc (Nat.le_refl _) _).alloc (by simp) _
def dE (D:DataW Unit) (s:ByteArray):Int:=if (bS D (bU s)==0)=true then 12 else if (bS D (bU s)==1)=true then 13 else 0
theorem xR {s:ByteArray} (h:Lib.hasPrefix s.data.toList [47]=true):0≤Lib.lastIndexByte s 47:=by
 unfold Lib.lastIndexByte
 rcases Lib.lastIdx_spec s 47 s.size with ⟨_,hj⟩|⟨i,_,h2,_⟩
 · exfalso
   unfold Lib.hasPrefix at h;cases hl:s.data.toList with
   |nil=>rw [hl] at h;cases h
   |cons a t=>
    rw [hl] at h;have ha:a=47:=(show (47:UInt8)=a by simpa using h).symm;have hsz:0<s.size:=by rw [←dD,hl];simp
    have:=hj 0 hsz
    apply this
    have e:s.data[0]! =a:=by
     have:s.data[0]? =some a:=by rw [←Array.getElem?_toList,hl];rfl
     simp [getElem!_def,this]
    rw [e,ha];rfl
 · rw [h2];omega
theorem tY {s:ByteArray} (h:bT s=true):s.size≤4096∧0≤Lib.lastIndexByte s 47:=by
 unfold bT eH at h;simp only [Bool.and_eq_true,Bool.or_eq_true,Bool.not_eq_true'] at h;obtain ⟨h1,h2⟩:=h
 rcases h1 with h1|⟨⟨h3,h4⟩,_⟩
 · rw [h2] at h1;cases h1
 · exact ⟨by simpa using h3,xR h4⟩
theorem rB {s:ByteArray} (h:s.size≤4096):(bU s).size≤maxLen:=by
 unfold bU maxLen
 split
 · decide
 · simp only [ByteArray.size_extract];omega
set_option maxHeartbeats 400000 in
theorem mZ {B:Nat} {w:World} {d mb n:Nat} {rv:Value} {x:Ab} (h:IsDisk B w d mb n rv x) (s:ByteArray) (hs:bT s=true):
 Calls Tryz.prog 52 #[.pointer (some ⟨d,0,none⟩),.string s] w fun e w'=>e= .returned (.int .i64 (dE x.D s))∧Below w.heap.size w w':=by
 obtain ⟨p1,p2⟩:=tY hs;have hsp:=GE s w p1 p2;have hk:=pY (h.below (Below.refl _ w).drew) (bU s) (rB p1);have HP:Hid (dE x.D s=if (bS x.D (bU s)==0)=true then 12 else if (bS x.D (bU s)==1)=true then 13 else 0):=by unfold Hid dE;rfl
 generalize bS x.D (bU s)=k at*;generalize bU s=ps at*;clear h hs p1 p2
 by_cases h0:(k==0)=true
 · go_enter Tryz.func52,Tryz.ntmps52
   go_wp2_with (first
    |(go_at_call 103;refine hsp.mono ?_;rintro e w' ⟨rfl,rfl⟩)
    |(go_at_call 51;refine hk.mono ?_;rintro e w' ⟨rfl,hb⟩))
   go_ret;exact ⟨bP (by rw [HP.out,if_pos h0]),(Below.refl _ w).drew.trans hb⟩
 · rw [Bool.not_eq_true] at h0
   by_cases h1:(k==1)=true
   · go_enter Tryz.func52,Tryz.ntmps52
     go_wp2_with (first
      |(go_at_call 103;refine hsp.mono ?_;rintro e w' ⟨rfl,rfl⟩)
      |(go_at_call 51;refine hk.mono ?_;rintro e w' ⟨rfl,hb⟩))
     go_ret;exact ⟨bP (by rw [HP.out,if_neg (by rw [h0];decide),if_pos h1]),(Below.refl _ w).drew.trans hb⟩
   · rw [Bool.not_eq_true] at h1
     go_enter Tryz.func52,Tryz.ntmps52
     go_wp2_with (first
      |(go_at_call 103;refine hsp.mono ?_;rintro e w' ⟨rfl,rfl⟩)
      |(go_at_call 51;refine hk.mono ?_;rintro e w' ⟨rfl,hb⟩))
     go_ret;exact ⟨bP (by rw [HP.out,if_neg (by rw [h0];decide),if_neg (by rw [h1];decide)]),(Below.refl _ w).drew.trans hb⟩
theorem MI (t:ByteArray):(⟨t.data.toList.toArray⟩:ByteArray)=t:=by cases t;simp
theorem nJ {w:World} {a:Addr} {v:Value} (h:w.cell? a=some v):a.block<w.heap.size:=by
 rcases Nat.lt_or_ge a.block w.heap.size with h1|h1
 · exact h1
 · exfalso
   unfold World.cell? at h;rw [Array.getElem?_eq_none h1] at h;cases h
theorem pZ {w w':World} {a:Addr} {v:Value} (h:w.cell? a=some v) (hb:Below w.heap.size w w'):w'.cell? a=some v:=by
 rw [hb.cell (nJ h)];exact h
def TF:Lit→ByteArray
 | .string l=>⟨l.toArray⟩
 |_=>ByteArray.empty
theorem xS (s:ByteArray):TF (dS s)=s:=by unfold TF dS;exact MI s
theorem qA {s t:ByteArray} (h:dS s=dS t):s=t:=by rw [←xS s,h,xS]
theorem gJ {w w':World} {row:Option Nat} (hg:w.grownBy w' row) {d:Nat} (hd:d<w.heap.size) (hr:row≠some d) (i:Nat):w'.cell? ⟨d,i,none⟩=w.cell? ⟨d,i,none⟩∧w'.frozen? ⟨d,i,none⟩=w.frozen? ⟨d,i,none⟩:=
 ⟨World.cell?_of_block (w:=w) (hg.block d hd (fun e=>hr e.symm)),World.frozen?_of_block (w:=w) (hg.block d hd (fun e=>hr e.symm))⟩
theorem RW {B:Nat} {w w1:World} {d mb n n':Nat} {rv:Value} {x:Ab} {D':DataW Unit} (h:IsDisk B w d mb n rv x) (hown:w1.ownsMap Tryz.prog 9 hI mb n' D') (hg:w.grownBy w1 (some mb))
 (hk:∀ kl,Maps.has D' kl=true→∃ s,kl=dS s∧bT s=true):IsDisk B w1 d mb n' rv { D:=D',rs:=x.rs,left:=x.left }∧Upd (TD d mb rv) w w1:=by
 have q:∀ i,w1.cell? ⟨d,i,none⟩=w.cell? ⟨d,i,none⟩∧w1.frozen? ⟨d,i,none⟩=w.frozen? ⟨d,i,none⟩:=fun i=>gJ hg h.ld (fun e=>h.dm (Option.some.inj e).symm) i
 have hu:=Upd.of_grown hg;refine ⟨?_,hu.mono (fun i _ f=>Or.inr (Or.inl (Option.some.inj f).symm))⟩
 exact { c0:=by rw [(q 0).1];exact h.c0,c1:=by rw [(q 1).1];exact h.c1,c2:=by rw [(q 2).1];exact h.c2,f1:=by rw [(q 1).2];exact h.f1,f2:=by rw [(q 2).2];exact h.f2,
         own:=hown,row:=mP h.row hu (fun j hj f=>h.rm (by rw [hj];exact f.symm)),rd:=h.rd,rm:=h.rm,dm:=h.dm,bd:=h.bd,bm:=h.bm,
         ld:=Nat.lt_of_lt_of_le h.ld hg.size,keys:=hk }
theorem QG (s:ByteArray):WideAt.IsKeyLit (dS s):=by unfold dS WideAt.IsKeyLit;trivial
theorem MJ {D:DataW Unit} {s:ByteArray} {v:DataW Unit} (hs:bT s=true) (hk:∀ kl,Maps.has D kl=true→∃ s,kl=dS s∧bT s=true):∀ kl,Maps.has (D.put (dS s) v) kl=true→∃ s,kl=dS s∧bT s=true:=by
 intro kl h
 by_cases e:kl=dS s
 · exact ⟨s,e,hs⟩
 · rw [has_put_other e] at h;exact hk kl h
theorem eI (w:World) (o:Obj):Below w.heap.size w (w.alloc o):=(Below.refl _ _).alloc (Nat.le_refl _) _
abbrev Fl:=ByteArray×Bool×ByteArray
end Go.Proofs.YtlmpiohbmlddiaaGreatDoor.Dk
