/- Tr4, Ts8, Iz3, Ps1b, Ps4, Ps5, Ps6: their declarations that are needed, laid in one text, remarks and blanks left out. -/
import Derived.RegionTactic
import Derived.ChangeAlike
import Derived.Test.YtmnhnofnlcbliaaGreatDoorMg23
import Derived.Test.YtmnhnofnlcbliaaGreatDoorMg26
namespace Go.Proofs.YtmnhnofnlcbliaaGreatDoor
open Go.RowKit
set_option maxRecDepth 100000
def Ext (st st':MS):Prop:=st'.m.length=st.m.length∧(∀ j,0≤st.m.getD j (-1)→st'.m.getD j (-1)=st.m.getD j (-1))∧∃ t,st'.q=st.q++t
theorem Ext.refl (st:MS):Ext st st:=⟨rfl,fun _ _=>rfl,[],by simp⟩
theorem Ext.trans {a b c:MS} (h:Ext a b) (h2:Ext b c):Ext a c:=by
 obtain ⟨t,ht⟩:=h.2.2;obtain ⟨u,hu⟩:=h2.2.2;refine ⟨h2.1.trans h.1,fun j hj=> ?_,t++u,by rw [hu,ht,List.append_assoc]⟩;rw [h2.2.1 j (by rw [h.2.1 j hj];exact hj),h.2.1 j hj]
def OkE (L:List Dr) (G:List Nd) (st:MS) (r:Nat) (e:Eg):Prop:=∃ k:Nat,cR L (r:Int) e.lb=k∧st.m.getD k (-1)=e.to∧gH (L.getD k drZ) (G.getD e.to.toNat ndZ)=true
theorem OkE.ext {L:List Dr} {G:List Nd} {st st':MS} {r:Nat} {e:Eg} (h:OkE L G st r e) (hx:Ext st st') (h0:0<e.to):OkE L G st' r e:=by
 obtain ⟨k,h1,h2,h3⟩:=h;exact ⟨k,h1,by rw [hx.2.1 k (by rw [h2];omega),h2],h3⟩
def NI (st:MS):Prop:=∀ j,0≤st.m.getD j (-1)→j ∈ st.q
theorem xI {l:List Int} {k:Nat} {a b:Int} (h:k<l.length):l.getD k a=l.getD k b:=by rw [bN h,bN h]
theorem mS {l:List Int} {k:Nat} {x:Int} (hk:k<l.length) (j:Nat):(l.set k x).getD j (-1)=if k=j then x else l.getD j (-1):=by
 rw [List.getD_eq_getElem?_getD,List.getElem?_set]
 by_cases h:k=j
 · subst h
   rw [if_pos rfl,if_pos rfl,if_pos hk];rfl
 · rw [if_neg h,if_neg h,List.getD_eq_getElem?_getD]
theorem Cj {L:List Dr} {G:List Nd} {r:Nat} {st st':MS} {e:Eg} (hi:MInv L G st) (hq:NI st) (ht:0<e.to∧e.to<(G.length:Int)) (h:gL L G r st e=some st'):MInv L G st'∧NI st'∧Ext st st'∧OkE L G st' r e:=by
 unfold gL at h;have hlt:=vE L (r:Int) e.lb
 split at h
 · cases h
 · rename_i hn
   obtain ⟨k,hk⟩:∃ k:Nat,cR L (r:Int) e.lb=k:=⟨(cR L (r:Int) e.lb).toNat,by omega⟩;rw [hk] at h hlt;rw [Int.toNat_natCast] at h;have hkm:k<st.m.length:=by rw [hi.len];omega
   split at h
   · cases h
   · rename_i hio
     have hiso:gH (L.getD k drZ) (G.getD e.to.toNat ndZ)=true:=by
      cases hb:gH (L.getD k drZ) (G.getD e.to.toNat ndZ) with
      |true=>rfl
      |false=>exact absurd hb hio
     split at h
     · rename_i hx
       obtain rfl:=Option.some.inj h;rw [bN hkm] at hx;refine ⟨hi.set hkm hx ht.1 ht.2,fun j hj=> ?_,⟨by simp,fun j hj=> ?_,[k],rfl⟩,k,hk,?_,hiso⟩
       · rw [mS hkm] at hj
         by_cases hkj:k=j
         · subst hkj;simp
         · rw [if_neg hkj] at hj
           exact List.mem_append_left _ (hq j hj)
       · show (st.m.set k e.to).getD j (-1)=_
         rw [mS hkm]
         by_cases hkj:k=j
         · subst hkj
           rw [bN hkm] at hj;omega
         · rw [if_neg hkj]
       · show (st.m.set k e.to).getD k (-1)=_
         rw [mS hkm,if_pos rfl]
     · split at h
       · rename_i hxe
         obtain rfl:=Option.some.inj h;exact ⟨hi,hq,Ext.refl _,k,hk,by rw [xI (b:=0) hkm];exact hxe,hiso⟩
       · cases h
theorem JF {L:List Dr} {G:List Nd} {r:Nat}:∀ {es:List Eg} {st st':MS},MInv L G st→NI st→(∀ e ∈ es,0<e.to∧e.to<(G.length:Int))→eN L G r es st=some st'→MInv L G st'∧NI st'∧Ext st st'∧∀ e ∈ es,OkE L G st' r e
 |[],st,st',hi,hq,_,h=>by
  obtain rfl:=Option.some.inj h;exact ⟨hi,hq,Ext.refl _,fun e he=>by cases he⟩
 |e::es,st,st',hi,hq,ht,h=>by
  unfold eN at h;cases hs:gL L G r st e with
  |none=>rw [hs] at h;cases h
  |some s1=>
   rw [hs] at h;obtain ⟨h1,h2,h3,h4⟩:=Cj hi hq (ht e List.mem_cons_self) hs;obtain ⟨k1,k2,k3,k4⟩:=JF h1 h2 (fun x hx=>ht x (List.mem_cons_of_mem _ hx)) h;refine ⟨k1,k2,h3.trans k3,fun x hx=> ?_⟩
   rcases List.mem_cons.1 hx with rfl|hx
   · exact h4.ext k3 (ht x List.mem_cons_self).1
   · exact k4 x hx
theorem Ck {G:List Nd} {st st':MS} {r:Nat} (h:Ext st st') (h0:0≤st.m.getD r (-1)) (hr:r<st.m.length):iH G st' r=iH G st r:=by
 unfold iH;have hr':r<st'.m.length:=by rw [h.1];exact hr
 have e:st'.m.getD r 0=st.m.getD r 0:=by
  rw [xI (b:= -1) hr',xI (b:= -1) hr];exact h.2.1 r h0
 rw [e]
theorem ZD {L:List Dr} {G:List Nd} (hl:eM G=true):∀ {n i:Nat} {st:MS} {m:List Int},MInv L G st→NI st→(∀ p r,p<i→st.q[p]? =some r→∀ e ∈ iH G st r,OkE L G st r e)→kS L G n i st=some m→∃ st',st'.m=m∧MInv L G st'∧Ext st st'∧NI st'∧∀ r ∈ st'.q,∀ e ∈ iH G st' r,OkE L G st' r e
 |0,_,_,_,_,_,_,h=>by cases h
 |n+1,i,st,m,hi,hq,hok,h=>by
  cases hs:st.q[i]? with
  |none=>
   rw [PQ hs] at h;refine ⟨st,Option.some.inj h,hi,Ext.refl _,hq,fun r hr e he=> ?_⟩;obtain ⟨p,hp,rfl⟩:=List.getElem_of_mem hr;have hlen:st.q.length≤i:=List.getElem?_eq_none_iff.1 hs;exact hok p _ (by omega) (List.getElem?_eq_getElem hp) e he
  |some r=>
   rw [XR hs] at h;cases hx:eN L G r (iH G st r) st with
   |none=>rw [hx] at h;cases h
   |some s1=>
    rw [hx] at h;have hrq:r ∈ st.q:=List.mem_of_getElem? hs;obtain ⟨hrm,hr0⟩:=hi.qin r hrq
    have hG:(st.m.getD r 0).toNat<G.length:=by
     rw [bN hrm]
     rcases hi.each r hrm with hh|hh<;>omega
    have hto:∀ e ∈ iH G st r,0<e.to∧e.to<(G.length:Int):=fun e he=>by
     unfold iH at he;rw [bN hG] at he;exact (qG hl).2 _ (List.getElem_mem hG) e he
    obtain ⟨h1,h2,h3,h4⟩:=JF hi hq hto hx
    have hval:∀ x ∈ st.q,x<st.m.length∧0≤st.m.getD x (-1):=fun x hxq=>by
     obtain ⟨a,b⟩:=hi.qin x hxq;exact ⟨a,by rw [bN a];exact b⟩
    obtain ⟨t,ht⟩:=h3.2.2
    obtain ⟨s2,k1,k2,k3,k4,k5⟩:=ZD hl (n:=n) (i:=i+1) (st:=s1) (m:=m) h1 h2 (fun p x hp hpx e he=>by
     have hiq:i<st.q.length:=(List.getElem?_eq_some_iff.1 hs).1
     have hpx':st.q[p]? =some x:=by
      rw [ht,List.getElem?_append_left (by omega)] at hpx;exact hpx
     obtain ⟨a,b⟩:=hval x (List.mem_of_getElem? hpx');rw [Ck h3 b a] at he
     rcases Nat.lt_or_ge p i with hpi|hpi
     · have hG2:(st.m.getD x 0).toNat<G.length:=by
        rw [bN a];rw [bN a] at b
        rcases hi.each x a with hh|hh<;>omega
       have ht2:0<e.to:=by
        unfold iH at he;rw [bN hG2] at he;exact ((qG hl).2 _ (List.getElem_mem hG2) e he).1
       exact (hok p x hpi hpx' e he).ext h3 ht2
     · obtain rfl:p=i:=by omega
       obtain rfl:r=x:=Option.some.inj (hs.symm.trans hpx');exact h4 e he) h
    exact ⟨s2,k1,k2,h3.trans k3,k4,k5⟩
theorem AX {L:List Dr} {G:List Nd} {m:List Int} (hL:0<L.length) (hl:eM G=true) (h:iN L G=some m):
 m.length=L.length∧(∃ h0:0<m.length,m[0]=0)∧(∀ j (hj:j<m.length),m[j]= -1∨(0≤m[j]∧m[j]<(G.length:Int)))∧
  ∀ i y (hi:i<m.length) (_hy:m[i]=((y:Nat):Int)) (hyG:y<G.length),∀ e ∈ G[y].ed,∃ (k z:Nat) (hk:k<L.length) (hkm:k<m.length) (hz:z<G.length),cR L (i:Int) e.lb=k∧e.to=z∧m[k]=z∧L[k].pk.nm=G[z].nm∧L[k].pk.a=G[z].a∧L[k].pk.b=G[z].b∧L[k].pk.c=G[z].c:=by
 have hG:=(qG hl).1
 have hq0:NI (dU L.length):=fun j hj=>by
  unfold dU at hj ⊢;rw [mS (by simpa using hL)] at hj
  by_cases h0:0=j
  · subst h0;simp
  · rw [if_neg h0,List.getD_eq_getElem?_getD,List.getElem?_replicate] at hj
    split at hj
    · exact absurd hj (by decide)
    · exact absurd hj (by decide)
 obtain ⟨st,rfl,h1,h2,h3,h4⟩:=ZD hl (MInv.start hL hG) hq0 (fun p r hp=>by omega) h;have hlen:=h1.len;refine ⟨hlen,⟨by omega,?_⟩,h1.each,fun i y hi hy hyG e he=> ?_⟩
 · have e0:(dU L.length).m.getD 0 (-1)=0:=by
    unfold dU;rw [mS (by simpa using hL),if_pos rfl]
   have:=h2.2.1 0 (by rw [e0];exact Int.le_refl _)
   rw [e0,bN (by omega)] at this;exact this
 · have hiq:i ∈ st.q:=h3 i (by rw [bN hi,hy];omega)
   have he2:e ∈ iH G st i:=by
    unfold iH;rw [bN hi,hy,Int.toNat_natCast,bN hyG];exact he
   obtain ⟨k,k1,k2,k3⟩:=h4 i hiq e he2;have ht:=(qG hl).2 _ (List.getElem_mem hyG) e he;have hlt:=vE L (i:Int) e.lb;have hkL:k<L.length:=by omega
   have hkm:k<st.m.length:=by omega
   obtain ⟨z,hz⟩:∃ z:Nat,e.to=z:=⟨e.to.toNat,by omega⟩;have hzG:z<G.length:=by omega
   rw [hz,Int.toNat_natCast,bN hkL,bN hzG] at k3;rw [bN hkm,hz] at k2;unfold gH at k3;simp only [Bool.and_eq_true,decide_eq_true_eq,eW] at k3;exact ⟨k,z,hkL,hkm,hzG,k1,hz,k2,k3.1,k3.2.1.1,k3.2.1.2,k3.2.2⟩
theorem AY {w:World} {B:Nat} {v:Value} {l:List Int} (h:OwnI w B v l):∃ a c,v= .slice a l.length c∧∀ j (_:j<l.length),∃ g,a=some ⟨g,0,none⟩∧InI w g j l[j]:=by
 have h0:=h
 rcases h.2 with ⟨rfl,hn⟩|⟨g,cap,cur,rfl,hB,hg,hc,_⟩
 · exact ⟨none,0,by rw [hn],fun j hj=>by omega⟩
 · refine ⟨_,cap,rfl,fun j hj=>⟨g,rfl,?_⟩⟩
   have e:=World.ownsRow.cellAt h0 j (by omega);have e2:(lP l)[j]? =some (.int .i64 l[j]):=by simp [lP,hj]
   exact ⟨e.trans e2,(World.ownsRow.lt h0 g rfl).2⟩
theorem qT {L:List Dr} {G:List Nd} (h:lQ L G=0):(fV L G).length=L.length:=by
 obtain ⟨h1,h2,h3⟩:=kZ h;unfold fV;rw [if_pos ⟨h1,h2⟩];cases hm:iN L G with
 |none=>rw [hm] at h3;cases h3
 |some m=>exact (AX (cZ.1 h1).1.1 h2 hm).1
theorem TrOk.apart {L:List Dr} (h:TrOk L) {i j:Nat} (hi:i<L.length) (hj:j<L.length) (hne:i≠j):aH L[i].pa≠aH L[j].pa:=fun e=>by
 have hn:∀ k (hk:k<L.length),L[k].pa=[]∨aT L[k].pa=true:=fun k hk=>by
  rcases Nat.eq_zero_or_pos k with rfl|h0
  · exact Or.inl (h.root hk)
  · exact Or.inr (h.names k hk (by omega)).2.1
 have h1:=jG (hn i hi);rw [e,jG (hn j hj)] at h1;exact hne (h.uniq i j hi hj (Option.some.inj h1).symm)
def BxPF (w:World) (N:Nat) (s:ByteArray) (a b c:Int) (v1 v2 v3:Value):Prop:=BxP w N s a b c v1 v2 v3∧∀ i,i<7→w.frozen? ⟨N,i,none⟩=false
theorem eC (N:Nat) (s:ByteArray) (a b c:Int) (v1 v2 v3:Value):KeepP fun w1=>BxPF w1 N s a b c v1 v2 v3:=fun _ _ h hb=>
 ⟨gE _ _ _ _ _ _ _ _ _ _ h.1 hb,fun i hi=>(hb.frozen (p:=⟨N,i,none⟩) h.1.2.2.2.2.2.2.2).trans (h.2 i hi)⟩
theorem BxPF.new {w:World} {N:Nat} (hN:w.heap.size=N) (s:ByteArray) (a b c:Int) (v1 v2 v3:Value):BxPF (w.alloc (.cells #[.string s,.int .i64 a,.int .i64 b,.int .i64 c,v1,v2,v3] 54)) N s a b c v1 v2 v3:=by
 refine ⟨BxP.new hN _ _ _ _ _ _ _,fun i hi=> ?_⟩;subst hN
 simp
theorem aJ {w:World} {N i j:Nat} {u x:Value} (h:i≠j) (hx:w.cell? ⟨N,j,none⟩=some x):(w.setCell ⟨N,i,none⟩ u).cell? ⟨N,j,none⟩=some x:=(World.cell?_setCell_other _ _ _ _ (fun e=>by cases e;exact h rfl)).trans hx
theorem mT {w:World} {N:Nat} {x0 x1 x2 x3 x4 x5 x6:Value} (j0:w.cell? ⟨N,0,none⟩=some x0) (j1:w.cell? ⟨N,1,none⟩=some x1) (j2:w.cell? ⟨N,2,none⟩=some x2) (j3:w.cell? ⟨N,3,none⟩=some x3) (j4:w.cell? ⟨N,4,none⟩=some x4) (j5:w.cell? ⟨N,5,none⟩=some x5) (j6:w.cell? ⟨N,6,none⟩=some x6) (u0 u1 u2 u3 u4 u5 u6:Value):
 (((((((w.setCell ⟨N,0,none⟩ u0).setCell ⟨N,1,none⟩ u1).setCell ⟨N,2,none⟩ u2).setCell ⟨N,3,none⟩ u3).setCell ⟨N,4,none⟩ u4).setCell ⟨N,5,none⟩ u5).setCell ⟨N,6,none⟩ u6).cell? ⟨N,0,none⟩=some u0∧(((((((w.setCell ⟨N,0,none⟩ u0).setCell ⟨N,1,none⟩ u1).setCell ⟨N,2,none⟩ u2).setCell ⟨N,3,none⟩ u3).setCell ⟨N,4,none⟩ u4).setCell ⟨N,5,none⟩ u5).setCell ⟨N,6,none⟩ u6).cell? ⟨N,1,none⟩=some u1∧(((((((w.setCell ⟨N,0,none⟩ u0).setCell ⟨N,1,none⟩ u1).setCell ⟨N,2,none⟩ u2).setCell ⟨N,3,none⟩ u3).setCell ⟨N,4,none⟩ u4).setCell ⟨N,5,none⟩ u5).setCell ⟨N,6,none⟩ u6).cell? ⟨N,2,none⟩=some u2∧(((((((w.setCell ⟨N,0,none⟩ u0).setCell ⟨N,1,none⟩ u1).setCell ⟨N,2,none⟩ u2).setCell ⟨N,3,none⟩ u3).setCell ⟨N,4,none⟩ u4).setCell ⟨N,5,none⟩ u5).setCell ⟨N,6,none⟩ u6).cell? ⟨N,3,none⟩=some u3∧(((((((w.setCell ⟨N,0,none⟩ u0).setCell ⟨N,1,none⟩ u1).setCell ⟨N,2,none⟩ u2).setCell ⟨N,3,none⟩ u3).setCell ⟨N,4,none⟩ u4).setCell ⟨N,5,none⟩ u5).setCell ⟨N,6,none⟩ u6).cell? ⟨N,4,none⟩=some u4∧(((((((w.setCell ⟨N,0,none⟩ u0).setCell ⟨N,1,none⟩ u1).setCell ⟨N,2,none⟩ u2).setCell ⟨N,3,none⟩ u3).setCell ⟨N,4,none⟩ u4).setCell ⟨N,5,none⟩ u5).setCell ⟨N,6,none⟩ u6).cell? ⟨N,5,none⟩=some u5∧(((((((w.setCell ⟨N,0,none⟩ u0).setCell ⟨N,1,none⟩ u1).setCell ⟨N,2,none⟩ u2).setCell ⟨N,3,none⟩ u3).setCell ⟨N,4,none⟩ u4).setCell ⟨N,5,none⟩ u5).setCell ⟨N,6,none⟩ u6).cell? ⟨N,6,none⟩=some u6:=by
 exact ⟨aJ (by decide) (aJ (by decide) (aJ (by decide) (aJ (by decide) (aJ (by decide) (aJ (by decide) (World.cell?_setCell_same _ _ _ (j0))))))),aJ (by decide) (aJ (by decide) (aJ (by decide) (aJ (by decide) (aJ (by decide) (World.cell?_setCell_same _ _ _ (aJ (by decide) (j1))))))),aJ (by decide) (aJ (by decide) (aJ (by decide) (aJ (by decide) (World.cell?_setCell_same _ _ _ (aJ (by decide) (aJ (by decide) (j2))))))),aJ (by decide) (aJ (by decide) (aJ (by decide) (World.cell?_setCell_same _ _ _ (aJ (by decide) (aJ (by decide) (aJ (by decide) (j3))))))),aJ (by decide) (aJ (by decide) (World.cell?_setCell_same _ _ _ (aJ (by decide) (aJ (by decide) (aJ (by decide) (aJ (by decide) (j4))))))),aJ (by decide) (World.cell?_setCell_same _ _ _ (aJ (by decide) (aJ (by decide) (aJ (by decide) (aJ (by decide) (aJ (by decide) (j5))))))),World.cell?_setCell_same _ _ _ (aJ (by decide) (aJ (by decide) (aJ (by decide) (aJ (by decide) (aJ (by decide) (aJ (by decide) (j6)))))))⟩
theorem bF {w w':World} {N B:Nat} {u0 u1 u2 u3 u4 u5 u6:Value} (hN:B≤N) (h:Below B w w'):Below B w (((((((w'.setCell ⟨N,0,none⟩ u0).setCell ⟨N,1,none⟩ u1).setCell ⟨N,2,none⟩ u2).setCell ⟨N,3,none⟩ u3).setCell ⟨N,4,none⟩ u4).setCell ⟨N,5,none⟩ u5).setCell ⟨N,6,none⟩ u6):=
 (((((((h.setCell (p:=⟨N,0,none⟩) hN _).setCell (p:=⟨N,1,none⟩) hN _).setCell (p:=⟨N,2,none⟩) hN _).setCell (p:=⟨N,3,none⟩) hN _).setCell (p:=⟨N,4,none⟩) hN _).setCell (p:=⟨N,5,none⟩) hN _).setCell (p:=⟨N,6,none⟩) hN _)
theorem QO {w:World} {N g:Nat} {u0 u1 u2 u3 u4 u5 u6:Value} (h:g≠N):(((((((w.setCell ⟨N,0,none⟩ u0).setCell ⟨N,1,none⟩ u1).setCell ⟨N,2,none⟩ u2).setCell ⟨N,3,none⟩ u3).setCell ⟨N,4,none⟩ u4).setCell ⟨N,5,none⟩ u5).setCell ⟨N,6,none⟩ u6).heap[g]? =w.heap[g]? :=
 (Below.heap_setCell _ _ _ _ h).trans ((Below.heap_setCell _ _ _ _ h).trans ((Below.heap_setCell _ _ _ _ h).trans ((Below.heap_setCell _ _ _ _ h).trans ((Below.heap_setCell _ _ _ _ h).trans ((Below.heap_setCell _ _ _ _ h).trans ((Below.heap_setCell _ _ _ _ h)))))))
def fJ (ws:List Sc.Bs):Int:=if ws.head? =some [112,97,99,107,97,103,101]∧ws.length=3 then (if Sc.aK (ws.getD 1 [])=true then (if okP (Sc.ba (ws.getD 2 []))=true then 0 else 20) else 23) else 22
def HeadQ (w:World) (ws:List Sc.Bs) (er:Int) (e:Ending) (w':World):Prop:=∃ s a b c,e= .returned (.tuple #[.agg #[.string s,.int .i64 a,.int .i64 b,.int .i64 c,.slice none 0 0,.slice none 0 0,.slice none 0 0],.int .i64 er])∧Below w.heap.size w w'∧(er=0→s=Sc.ba (ws.getD 1 [])∧a=eS (Sc.ba (ws.getD 2 []))∧b=eT (Sc.ba (ws.getD 2 []))∧c=eU (Sc.ba (ws.getD 2 [])))∧(er≠0→s=⟨#[]⟩∧a=0∧b=0∧c=0)
theorem HeadQ.err {w w':World} {ws:List Sc.Bs} {er:Int} (h:er≠0) (hb:Below w.heap.size w w'):HeadQ w ws er (.returned (.tuple #[.agg #[.string ⟨#[]⟩,.int .i64 0,.int .i64 0,.int .i64 0,.slice none 0 0,.slice none 0 0,.slice none 0 0],.int .i64 er])) w':=⟨_,_,_,_,rfl,hb,fun e=>absurd e h,fun _=>⟨rfl,rfl,rfl,rfl⟩⟩
set_option maxHeartbeats 1000000 in
theorem xJ {ws:List Sc.Bs} {p0:Sc.Bs} {g o cap:Nat} {n:Nat} {w:World} (c0:w.cell? ⟨g,o,none⟩=some (.string (Sc.ba p0))) (hn:0<n) (hg:g<w.heap.size) (h:p0≠[112,97,99,107,97,103,101]∨n≠3):
 Calls Tryz.prog 229 #[.slice (some ⟨g,o,none⟩) n cap] w (HeadQ w ws 22):=by
 have HER:Hid (∀ w',Below w.heap.size w w'→HeadQ w ws 22 (.returned (.tuple #[.agg #[.string ⟨#[]⟩,.int .i64 0,.int .i64 0,.int .i64 0,.slice none 0 0,.slice none 0 0,.slice none 0 0],.int .i64 22])) w'):=fun w' hb=>HeadQ.err (by decide) hb
 have c0':(w.alloc (.cells #[.string ⟨#[]⟩,.int .i64 0,.int .i64 0,.int .i64 0,.slice none 0 0,.slice none 0 0,.slice none 0 0] 54)).cell? ⟨g,o,none⟩=some (.string (Sc.ba p0)):=((aC w _).cell (p:=⟨g,o,none⟩) hg).trans c0;have hn':(0:Int)<(n:Int):=by omega
 have ht:=iY p0;generalize HeadQ w ws 22=HQ at*;generalize Sc.ba p0=s0 at*
 by_cases hp:p0=[112,97,99,107,97,103,101]
 · have hn3:((n:Int)==3)=false:=by
    rcases h with h|h
    · exact (h hp).elim
    · rw [beq_eq_false_iff_ne];omega
   have hq:(s0.toList==[112,97,99,107,97,103,101])=true:=by rw [ht,hp];rfl
   clear h ht
   go_enter Tryz.func229,Tryz.ntmps229
   go_wp2
   try simp only [Exit.inBlock,Exit.then]
   refine bodyPost_ret (by simp [results,Tryz.results229,go_sem];try rfl) rfl ?_;exact HER.out _ (aC _ _)
 · have hq:(s0.toList==[112,97,99,107,97,103,101])=false:=by rw [ht,beq_eq_false_iff_ne];exact hp
   clear h ht
   go_enter Tryz.func229,Tryz.ntmps229
   go_wp2
   try simp only [Exit.inBlock,Exit.then]
   refine bodyPost_ret (by simp [results,Tryz.results229,go_sem];try rfl) rfl ?_;exact HER.out _ (aC _ _)
set_option maxHeartbeats 1000000 in
theorem tS {ws:List Sc.Bs} {s1:ByteArray} {g o cap:Nat} {w:World} (c0:w.cell? ⟨g,o,none⟩=some (.string ⟨#[112,97,99,107,97,103,101]⟩)) (c1:w.cell? ⟨g,o+1,none⟩=some (.string s1)) (hg:g<w.heap.size) (h:Sc.aK s1.data.toList=false):
 Calls Tryz.prog 229 #[.slice (some ⟨g,o,none⟩) 3 cap] w (HeadQ w ws 23):=by
 have HER:Hid (∀ w',Below w.heap.size w w'→HeadQ w ws 23 (.returned (.tuple #[.agg #[.string ⟨#[]⟩,.int .i64 0,.int .i64 0,.int .i64 0,.slice none 0 0,.slice none 0 0,.slice none 0 0],.int .i64 23])) w'):=fun w' hb=>HeadQ.err (by decide) hb
 have HN:Hid (∀ w1,Calls Tryz.prog 53 #[.string s1] w1 fun e w'=>e= .returned (.bool false)∧w'=w1):=fun w1=>by have:=Sc.eK s1 w1;rw [h] at this;exact this
 have c0':(w.alloc (.cells #[.string ⟨#[]⟩,.int .i64 0,.int .i64 0,.int .i64 0,.slice none 0 0,.slice none 0 0,.slice none 0 0] 54)).cell? ⟨g,o,none⟩=some (.string ⟨#[112,97,99,107,97,103,101]⟩):=((aC w _).cell (p:=⟨g,o,none⟩) hg).trans c0;have c1':(w.alloc (.cells #[.string ⟨#[]⟩,.int .i64 0,.int .i64 0,.int .i64 0,.slice none 0 0,.slice none 0 0,.slice none 0 0] 54)).cell? ⟨g,o+1,none⟩=some (.string s1):=((aC w _).cell (p:=⟨g,o+1,none⟩) hg).trans c1;generalize HeadQ w ws 23=HQ at*;clear h
 go_enter Tryz.func229,Tryz.ntmps229
 go_wp2_with (go_at_call 53;refine (HN.out _).mono ?_;rintro e w1 ⟨rfl,rfl⟩)
 try simp only [Exit.inBlock,Exit.then]
 refine bodyPost_ret (by simp [results,Tryz.results229,go_sem];try rfl) rfl ?_;exact HER.out _ (aC _ _)
set_option maxHeartbeats 1000000 in
theorem xK {ws:List Sc.Bs} {s1 s2:ByteArray} {g o cap:Nat} {w:World} (c0:w.cell? ⟨g,o,none⟩=some (.string ⟨#[112,97,99,107,97,103,101]⟩)) (c1:w.cell? ⟨g,o+1,none⟩=some (.string s1)) (c2:w.cell? ⟨g,o+2,none⟩=some (.string s2)) (hg:g<w.heap.size) (h:Sc.aK s1.data.toList=true) (hz:s2.size<4294967281) (he:Env w) (hv:okP s2=false):
 Calls Tryz.prog 229 #[.slice (some ⟨g,o,none⟩) 3 cap] w (HeadQ w ws 20):=by
 have HER:Hid (∀ w',Below w.heap.size w w'→HeadQ w ws 20 (.returned (.tuple #[.agg #[.string ⟨#[]⟩,.int .i64 0,.int .i64 0,.int .i64 0,.slice none 0 0,.slice none 0 0,.slice none 0 0],.int .i64 20])) w'):=fun w' hb=>HeadQ.err (by decide) hb
 have HN:Hid (∀ w1,Calls Tryz.prog 53 #[.string s1] w1 fun e w'=>e= .returned (.bool true)∧w'=w1):=fun w1=>by have:=Sc.eK s1 w1;rw [h] at this;exact this
 have HP:Hid (∀ w1,Below w.heap.size w w1→Calls Tryz.prog 256 #[.string s2] w1 fun e w'=>e= .returned (.tuple #[.agg #[.int .i64 (eS s2),.int .i64 (eT s2),.int .i64 (eU s2)],.bool false])∧Below w1.heap.size w1 w'):=fun w1 hb=>by have:=iX s2 hz w1 (he.below hb);rw [hv] at this;exact this
 have HB0:Hid (BxPF (w.alloc (.cells #[.string ⟨#[]⟩,.int .i64 0,.int .i64 0,.int .i64 0,.slice none 0 0,.slice none 0 0,.slice none 0 0] 54)) w.heap.size ⟨#[]⟩ 0 0 0 (.slice none 0 0) (.slice none 0 0) (.slice none 0 0)):=BxPF.new rfl _ _ _ _ _ _ _;have HKB:Hid (KeepP fun w1=>BxPF w1 w.heap.size ⟨#[]⟩ 0 0 0 (.slice none 0 0) (.slice none 0 0) (.slice none 0 0)):=eC _ _ _ _ _ _ _ _;have c0':(w.alloc (.cells #[.string ⟨#[]⟩,.int .i64 0,.int .i64 0,.int .i64 0,.slice none 0 0,.slice none 0 0,.slice none 0 0] 54)).cell? ⟨g,o,none⟩=some (.string ⟨#[112,97,99,107,97,103,101]⟩):=((aC w _).cell (p:=⟨g,o,none⟩) hg).trans c0;have c1':(w.alloc (.cells #[.string ⟨#[]⟩,.int .i64 0,.int .i64 0,.int .i64 0,.slice none 0 0,.slice none 0 0,.slice none 0 0] 54)).cell? ⟨g,o+1,none⟩=some (.string s1):=((aC w _).cell (p:=⟨g,o+1,none⟩) hg).trans c1
 have c2':(w.alloc (.cells #[.string ⟨#[]⟩,.int .i64 0,.int .i64 0,.int .i64 0,.slice none 0 0,.slice none 0 0,.slice none 0 0] 54)).cell? ⟨g,o+2,none⟩=some (.string s2):=((aC w _).cell (p:=⟨g,o+2,none⟩) hg).trans c2;generalize HeadQ w ws 20=HQ at*;generalize eS s2=ra at*;generalize eT s2=rb at*;generalize eU s2=rc at*;clear h he hv hz
 go_enter Tryz.func229,Tryz.ntmps229
 go_wp2_with (first
  |(go_at_call 53;refine (HN.out _).mono ?_;rintro e w1 ⟨rfl,rfl⟩)
  |(go_at_call 256;refine (HP.out _ (aC _ _)).mono ?_;rintro e w2 ⟨rfl,ok⟩;have HO2:Hid (Below w.heap.size w (w2.alloc (.cells #[.int .i64 ra,.int .i64 rb,.int .i64 rc] 52))∧BxPF (w2.alloc (.cells #[.int .i64 ra,.int .i64 rb,.int .i64 rc] 52)) w.heap.size ⟨#[]⟩ 0 0 0 (.slice none 0 0) (.slice none 0 0) (.slice none 0 0)):=⟨aA (aA (aC _ _) ok) (aC _ _),HKB.out _ _ (HKB.out _ _ HB0.out ok) (aC _ _)⟩;obtain ⟨⟨b0,b1,b2,b3,b4,b5,b6,b7⟩,hfz⟩:=HO2.out.2;have f0:=hfz 0 (by decide);have f1:=hfz 1 (by decide);have f2:=hfz 2 (by decide);have f3:=hfz 3 (by decide);have f4:=hfz 4 (by decide);have f5:=hfz 5 (by decide);have f6:=hfz 6 (by decide);clear ok hfz))
 have s7:=fun u0 u1 u2 u3 u4 u5 u6=>mT b0 b1 b2 b3 b4 b5 b6 u0 u1 u2 u3 u4 u5 u6
 try simp only [Exit.inBlock,Exit.then]
 refine bodyPost_ret (by simp [results,Tryz.results229,s7,go_sem];try rfl) rfl ?_;exact HER.out _ (bF (Nat.le_refl _) HO2.out.1)
set_option maxHeartbeats 1600000 in
theorem JG {ws:List Sc.Bs} {s1 s2:ByteArray} {g o cap:Nat} {w:World} (c0:w.cell? ⟨g,o,none⟩=some (.string ⟨#[112,97,99,107,97,103,101]⟩)) (c1:w.cell? ⟨g,o+1,none⟩=some (.string s1)) (c2:w.cell? ⟨g,o+2,none⟩=some (.string s2)) (hg:g<w.heap.size) (h:Sc.aK s1.data.toList=true) (hz:s2.size<4294967281) (he:Env w) (hv:okP s2=true) (h1:s1=Sc.ba (ws.getD 1 [])) (h2:s2=Sc.ba (ws.getD 2 [])):
 Calls Tryz.prog 229 #[.slice (some ⟨g,o,none⟩) 3 cap] w (HeadQ w ws 0):=by
 have HOK:Hid (∀ w',Below w.heap.size w w'→HeadQ w ws 0 (.returned (.tuple #[.agg #[.string s1,.int .i64 (eS s2),.int .i64 (eT s2),.int .i64 (eU s2),.slice none 0 0,.slice none 0 0,.slice none 0 0],.int .i64 0])) w'):=fun w' hb=>⟨_,_,_,_,rfl,hb,fun _=>⟨h1,by rw [←h2],by rw [←h2],by rw [←h2]⟩,fun e=>absurd rfl e⟩
 have HN:Hid (∀ w1,Calls Tryz.prog 53 #[.string s1] w1 fun e w'=>e= .returned (.bool true)∧w'=w1):=fun w1=>by have:=Sc.eK s1 w1;rw [h] at this;exact this
 have HP:Hid (∀ w1,Below w.heap.size w w1→Calls Tryz.prog 256 #[.string s2] w1 fun e w'=>e= .returned (.tuple #[.agg #[.int .i64 (eS s2),.int .i64 (eT s2),.int .i64 (eU s2)],.bool true])∧Below w1.heap.size w1 w'):=fun w1 hb=>by have:=iX s2 hz w1 (he.below hb);rw [hv] at this;exact this
 have HB0:Hid (BxPF (w.alloc (.cells #[.string ⟨#[]⟩,.int .i64 0,.int .i64 0,.int .i64 0,.slice none 0 0,.slice none 0 0,.slice none 0 0] 54)) w.heap.size ⟨#[]⟩ 0 0 0 (.slice none 0 0) (.slice none 0 0) (.slice none 0 0)):=BxPF.new rfl _ _ _ _ _ _ _;have HKB:Hid (KeepP fun w1=>BxPF w1 w.heap.size ⟨#[]⟩ 0 0 0 (.slice none 0 0) (.slice none 0 0) (.slice none 0 0)):=eC _ _ _ _ _ _ _ _;have c0':(w.alloc (.cells #[.string ⟨#[]⟩,.int .i64 0,.int .i64 0,.int .i64 0,.slice none 0 0,.slice none 0 0,.slice none 0 0] 54)).cell? ⟨g,o,none⟩=some (.string ⟨#[112,97,99,107,97,103,101]⟩):=((aC w _).cell (p:=⟨g,o,none⟩) hg).trans c0;have c1':(w.alloc (.cells #[.string ⟨#[]⟩,.int .i64 0,.int .i64 0,.int .i64 0,.slice none 0 0,.slice none 0 0,.slice none 0 0] 54)).cell? ⟨g,o+1,none⟩=some (.string s1):=((aC w _).cell (p:=⟨g,o+1,none⟩) hg).trans c1
 have c2':(w.alloc (.cells #[.string ⟨#[]⟩,.int .i64 0,.int .i64 0,.int .i64 0,.slice none 0 0,.slice none 0 0,.slice none 0 0] 54)).cell? ⟨g,o+2,none⟩=some (.string s2):=((aC w _).cell (p:=⟨g,o+2,none⟩) hg).trans c2;generalize HeadQ w ws 0=HQ at*;generalize eS s2=ra at*;generalize eT s2=rb at*;generalize eU s2=rc at*;clear h he hv hz h1 h2
 go_enter Tryz.func229,Tryz.ntmps229
 go_wp2_with (first
  |(go_at_call 53;refine (HN.out _).mono ?_;rintro e w1 ⟨rfl,rfl⟩)
  |(go_at_call 256;refine (HP.out _ (aC _ _)).mono ?_;rintro e w2 ⟨rfl,ok⟩;have HO2:Hid (Below w.heap.size w (w2.alloc (.cells #[.int .i64 ra,.int .i64 rb,.int .i64 rc] 52))∧BxPF (w2.alloc (.cells #[.int .i64 ra,.int .i64 rb,.int .i64 rc] 52)) w.heap.size ⟨#[]⟩ 0 0 0 (.slice none 0 0) (.slice none 0 0) (.slice none 0 0)):=⟨aA (aA (aC _ _) ok) (aC _ _),HKB.out _ _ (HKB.out _ _ HB0.out ok) (aC _ _)⟩;obtain ⟨⟨b0,b1,b2,b3,b4,b5,b6,b7⟩,hfz⟩:=HO2.out.2;have f0:=hfz 0 (by decide);have f1:=hfz 1 (by decide);have f2:=hfz 2 (by decide);have f3:=hfz 3 (by decide);have f4:=hfz 4 (by decide);have f5:=hfz 5 (by decide);have f6:=hfz 6 (by decide);have d1:(w2.alloc (.cells #[.int .i64 ra,.int .i64 rb,.int .i64 rc] 52)).cell? ⟨g,o+1,none⟩=some (.string s1):=(HO2.out.1.cell (p:=⟨g,o+1,none⟩) hg).trans c1;clear ok hfz))
 have v0:(w2.alloc (.cells #[.int .i64 ra,.int .i64 rb,.int .i64 rc] 52)).cell? ⟨w2.heap.size,0,none⟩=some (.int .i64 ra):=by simp
 have v1:(w2.alloc (.cells #[.int .i64 ra,.int .i64 rb,.int .i64 rc] 52)).cell? ⟨w2.heap.size,1,none⟩=some (.int .i64 rb):=by simp
 have v2:(w2.alloc (.cells #[.int .i64 ra,.int .i64 rb,.int .i64 rc] 52)).cell? ⟨w2.heap.size,2,none⟩=some (.int .i64 rc):=by simp
 generalize w2.alloc (.cells #[.int .i64 ra,.int .i64 rb,.int .i64 rc] 52)=w3 at*;generalize w2.heap.size=M at*;clear HB0 HKB c0 c1 c2 c0' c1' c2';have s7:=fun u0 u1 u2 u3 u4 u5 u6=>mT b0 b1 b2 b3 b4 b5 b6 u0 u1 u2 u3 u4 u5 u6
 go_region
 go_wp2
 refine bodyPost_ret (by simp [results,Tryz.results229,s7,go_sem];try rfl) rfl ?_;refine HOK.out _ ?_;exact (bF (Nat.le_refl _) HO2.out.1).drew
theorem qU {ws:List Sc.Bs} {v:Value} {w:World} (h:Sc.WordsAt w v ws) (hne:ws≠[]) (hz:∀ x ∈ ws,x.length≤5000) (he:Env w):Calls Tryz.prog 229 #[v] w (HeadQ w ws (fJ ws)):=by
 obtain ⟨ad,cap,rfl,hc,hs⟩:=h
 rcases hs with hs|⟨g,o,rfl,hg,hs⟩
 · exact absurd hs hne
 · have hl:0<ws.length:=List.length_pos_iff.2 hne
   have c0:=hs 0 hl
   have hh:ws.head? =some ws[0]:=by
    cases ws with
    |nil=>exact absurd rfl hne
    |cons x r=>rfl
   by_cases hp:ws.head? =some [112,97,99,107,97,103,101]∧ws.length=3
   · obtain ⟨hp1,hp2⟩:=hp
     have e0:ws[0]=[112,97,99,107,97,103,101]:=by rw [hh] at hp1;exact Option.some.inj hp1
     have c1:=hs 1 (by omega);have c2:=hs 2 (by omega);have g1:ws.getD 1 []=ws[1]:=by rw [List.getD_eq_getElem?_getD,List.getElem?_eq_getElem (by omega)];rfl
     have g2:ws.getD 2 []=ws[2]:=by rw [List.getD_eq_getElem?_getD,List.getElem?_eq_getElem (by omega)];rfl
     have z2:(Sc.ba ws[2]).size<4294967281:=by rw [Sc.mY];have:=hz _ (List.getElem_mem (show 2<ws.length by omega));omega
     rw [e0] at c0;unfold fJ;rw [if_pos ⟨hp1,hp2⟩,g1,g2];clear hs hc;revert c1 c2 g1 g2 z2;generalize h1:ws[1]=t1;generalize h2:ws[2]=t2;intro c1 c2 g1 g2 z2;rw [hp2];cases hn:Sc.aK t1
     · rw [if_neg (by simp)]
       exact tS c0 c1 hg (by rw [Sc.cQ];exact hn)
     · rw [if_pos rfl]
       cases hv:okP (Sc.ba t2)
       · rw [if_neg (by simp)]
         exact xK c0 c1 c2 hg (by rw [Sc.cQ];exact hn) z2 he hv
       · rw [if_pos rfl]
         exact JG c0 c1 c2 hg (by rw [Sc.cQ];exact hn) z2 he hv (by rw [g1]) (by rw [g2])
   · unfold fJ
     rw [if_neg hp]
     exact xJ c0 hl hg (by
      by_cases h3:ws.length=3
      · exact Or.inl fun e=>hp ⟨by rw [hh,e],h3⟩
      · exact Or.inr h3)
end Go.Proofs.YtmnhnofnlcbliaaGreatDoor
