/- Tw11, In1: their declarations that are needed, laid in one text, remarks and blanks left out. -/
import Derived.Test.YtlmpiohbmlddiaaGreatDoorMd10
namespace Go.Proofs.YtlmpiohbmlddiaaGreatDoor
open Go.RowKit
set_option maxRecDepth 100000
theorem kS {G:List Nd} (h:cX G=true):0<G.length∧∀ n ∈ G,∀ e ∈ n.ed,0<e.to∧e.to<(G.length:Int):=by
 unfold cX at h;simp only [Bool.and_eq_true,decide_eq_true_eq,List.all_eq_true,toB] at h;exact ⟨h.1,fun n hn e he=>h.2 n hn e he⟩
theorem tN {w w':World} {L:List Dr} {G:List Nd} {x:Int} (h1:gU L G=x) (h2:dQ L G=[]) (hb:Below w.heap.size w w'):kR w L G (.returned (.tuple #[.slice none 0 0,.int .i64 x])) w':=
 ⟨_,by rw [h1],by rw [h2];exact ⟨rfl,Or.inl ⟨rfl,rfl⟩⟩,hb⟩
theorem RK {w w':World} {L:List Dr} {G:List Nd} (h:bR L=false) (hb:Below w.heap.size w w'):kR w L G (.returned (.tuple #[.slice none 0 0,.int .i64 42])) w':=
 tN (by unfold gU;rw [if_neg (by rw [h];simp)]) (by unfold dQ;rw [if_neg (by rw [h];simp)]) hb
theorem RL {w w':World} {L:List Dr} {G:List Nd} (h0:bR L=true) (h:cX G=false) (hb:Below w.heap.size w w'):kR w L G (.returned (.tuple #[.slice none 0 0,.int .i64 33])) w':=
 tN (by unfold gU;rw [if_pos h0,if_neg (by rw [h];simp)]) (by unfold dQ;rw [if_neg (by rw [h];simp)]) hb
theorem RM {w w':World} {L:List Dr} {G:List Nd} (h0:bR L=true) (h1:cX G=true) (h:fG L G=none) (hb:Below w.heap.size w w'):kR w L G (.returned (.tuple #[.slice none 0 0,.int .i64 42])) w':=
 tN (by unfold gU;rw [if_pos h0,if_pos h1,if_neg (by rw [h];simp)]) (by unfold dQ;rw [if_pos ⟨h0,h1⟩,h];rfl) hb
theorem RN {w w':World} {L:List Dr} {G:List Nd} {m:List Int} {v:Value} (h0:bR L=true) (h1:cX G=true) (h:fG L G=some m) (ho:OwnI w' w.heap.size v m) (hb:Below w.heap.size w w'):kR w L G (.returned (.tuple #[v,.int .i64 0])) w':=
 ⟨v,by unfold gU;rw [if_pos h0,if_pos h1,if_pos (by rw [h];rfl)],by unfold dQ;rw [if_pos ⟨h0,h1⟩,h];exact ho,hb⟩
theorem bH {α:Type} {l:List α} {k:Nat} {d:α} (h:k<l.length):l.getD k d=l[k]:=by
 rw [List.getD_eq_getElem?_getD,List.getElem?_eq_getElem h];rfl
theorem AJ {L:List Dr} {G:List Nd} {r:Nat} {st:MS} {e:Eg} (h:bE L (r:Int) e.lb<0):gC L G r st e=none:=by unfold gC;rw [if_pos h]
theorem AK {L:List Dr} {G:List Nd} {r k y:Nat} {st:MS} {e:Eg} (h:bE L (r:Int) e.lb=k) (hk:k<L.length) (hy:e.to=y) (hyl:y<G.length) (h2:eN L[k] G[y]=false):gC L G r st e=none:=by
 unfold gC;rw [h,hy,if_neg (by omega),Int.toNat_natCast,Int.toNat_natCast,if_pos];rw [bH hk,bH hyl];exact h2
theorem KF {L:List Dr} {G:List Nd} {r k y:Nat} {st:MS} {e:Eg} (h:bE L (r:Int) e.lb=k) (hk:k<L.length) (hy:e.to=y) (hyl:y<G.length) (h2:eN L[k] G[y]=true) (hm:k<st.m.length) (hx:st.m[k]<0):gC L G r st e=some ⟨st.m.set k e.to,st.q++[k]⟩:=by
 unfold gC;rw [h,hy,if_neg (by omega),Int.toNat_natCast,Int.toNat_natCast,if_neg,if_pos]
 · rw [bH hm];exact hx
 · rw [bH hk,bH hyl,h2];simp
theorem wM {L:List Dr} {G:List Nd} {r k y:Nat} {st:MS} {e:Eg} (h:bE L (r:Int) e.lb=k) (hk:k<L.length) (hy:e.to=y) (hyl:y<G.length) (h2:eN L[k] G[y]=true) (hm:k<st.m.length) (hx:¬ st.m[k]<0):gC L G r st e=if st.m[k]=e.to then some st else none:=by
 unfold gC;rw [h,hy,if_neg (by omega),Int.toNat_natCast,Int.toNat_natCast,if_neg,if_neg]
 · rw [bH hm]
 · rw [bH hm];exact hx
 · rw [bH hk,bH hyl,h2];simp
theorem KG {L:List Dr} {G:List Nd} {n i r:Nat} {st:MS} (h:st.q[i]? =some r):jS L G (n+1) i st=(fE L G r (fF G st r) st).bind (jS L G n (i+1)):=by rw [jS,h]
theorem DC {L:List Dr} {G:List Nd} {n i:Nat} {st:MS} (h:st.q[i]? =none):jS L G (n+1) i st=some st.m:=by rw [jS,h]
def TU (w:World) (vt vg:Value) (g:Nat) (L:List Dr) (G:List Nd) (vq vi:Value) (wr:World):Prop:=
 ∃ st i q c,MInv L G st∧i≤st.q.length∧vi= .int .i64 (i:Nat)∧vq= .slice (some ⟨q,0,none⟩) st.q.length c∧StM w vt vg g q c st wr∧fG L G=jS L G (L.length+1 - i) i st
def TV (w:World) (vt vg:Value) (g:Nat) (L:List Dr) (G:List Nd) (i r:Nat) (ed:List Eg) (vq vj:Value) (wr:World):Prop:=
 ∃ st j q c,MInv L G st∧j≤ed.length∧st.q[i]? =some r∧vj= .int .i64 (j:Nat)∧vq= .slice (some ⟨q,0,none⟩) st.q.length c∧StM w vt vg g q c st wr∧fG L G=(fE L G r (ed.drop j) st).bind (jS L G (L.length - i) (i+1))
theorem StM.bel {w:World} {vt vg:Value} {g q c:Nat} {st:MS} {wr:World} (h:StM w vt vg g q c st wr):Below w.heap.size w wr:=h.1.1
def BxE (w:World) (N:Nat) (e:Eg):Prop:=(w.cell? ⟨N,0,none⟩=some (.string e.lb)∧w.cell? ⟨N,1,none⟩=some (.int .i64 e.to))∧N<w.heap.size
theorem tO (N:Nat) (e:Eg):KeepP fun w1=>BxE w1 N e:=fun w w' h hb=>by
 obtain ⟨⟨h0,h1⟩,hg⟩:=h;exact ⟨⟨(hb.cell (p:=⟨N,0,none⟩) hg).trans h0,(hb.cell (p:=⟨N,1,none⟩) hg).trans h1⟩,Nat.lt_of_lt_of_le hg hb.size⟩
theorem BxE.new (w:World) (e:Eg):BxE (w.alloc (.cells #[.string e.lb,.int .i64 e.to] 62)) w.heap.size e:=⟨⟨by simp,by simp⟩,by simp⟩
theorem cN {w:World} {B B':Nat} {e:TypeId} {sz:Nat} {v:Value} {n:Nat} {xs:List Value} (h:w.ownsRow B e sz v n xs) (hb:B'≤B):w.ownsRow B' e sz v n xs:=⟨h.1,h.2.imp id fun ⟨g,cap,cur,e,hB,r⟩=>⟨g,cap,cur,e,Nat.le_trans hb hB,r⟩⟩
theorem KH (g o:Nat) (n:Nd) (vc ve:Value):KeepP fun w1=>NdIn w1 g o n vc ve:=fun _ _ h hb=>h.below hb
set_option maxHeartbeats 25600000 in
theorem DD {L:List Dr} {G:List Nd} {vt vg:Value} {w:World} (ht:DirsAt w vt L) (hz:L.length≤9223372036854775807) (hk:kO L) (hg:NodesAt w vg G) (hgz:tL G) (he:Env w) (hf:FL w):
 Calls Tryz.prog 63 #[.agg #[vt],.agg #[vg]] w fun e w'=>kR w L G e w':=by
 have HCK:Hid (∀ w1,Below w.heap.size w w1→Calls Tryz.prog 115 #[.agg #[vt]] w1 fun e w'=>e= .returned (.int .i64 (OA (bR L)))∧Below w1.heap.size w1 w'):=fun w1 hb=>zW (ht.below hb) hz hk (he.below hb) (hf.below hb)
 have HLE:Hid (∀ w1,Below w.heap.size w w1→Calls Tryz.prog 116 #[.agg #[vg]] w1 fun e w'=>e= .returned (.bool (cX G))∧Below w1.heap.size w1 w'):=fun w1 hb=>wJ (hg.below hb) hgz
 have HLK:Hid (∀ w1,Below w.heap.size w w1→∀ (r:Nat) s,Calls Tryz.prog 17 #[.agg #[vt],.int .i64 r,.string s] w1 fun e w'=>e= .returned (.int .i64 (bE L r s))∧Below w1.heap.size w1 w'):=fun w1 hb r s=>vM (ht.below hb) hz hk.1 r s
 have HDT:Hid (∀ w1,Below w.heap.size w w1→DirsAt w1 vt L):=fun w1 hb=>ht.below hb
 have HDG:Hid (∀ w1,Below w.heap.size w w1→NodesAt w1 vg G):=fun w1 hb=>hg.below hb
 obtain ⟨ta,tc,rfl,htc,htx⟩:=ht.sl;obtain ⟨ga,gc,rfl,hgc,hgx⟩:=hg;have HKB:Hid (KeepP fun w1=>Below w.heap.size w w1∧BxT w1 w.heap.size (.slice ta L.length tc)∧BxT w1 (w.heap.size+1) (.slice ga G.length gc)):=(aO w).and ((cE _ _).and (cE _ _));have HBX:Hid (Below w.heap.size w ((w.alloc (.cells #[.slice ta L.length tc] 30)).alloc (.cells #[.slice ga G.length gc] 27))∧BxT ((w.alloc (.cells #[.slice ta L.length tc] 30)).alloc (.cells #[.slice ga G.length gc] 27)) w.heap.size (.slice ta L.length tc)∧BxT ((w.alloc (.cells #[.slice ta L.length tc] 30)).alloc (.cells #[.slice ga G.length gc] 27)) (w.heap.size+1) (.slice ga G.length gc)):=⟨aV _ _ _,cE _ _ _ _ (BxT.new _ _) (aD _ _),by have h:=BxG.new (w.alloc (.cells #[.slice ta L.length tc] 30)) (.slice ga G.length gc);rw [show (w.alloc (.cells #[.slice ta L.length tc] 30)).heap.size=w.heap.size+1 by simp] at h;exact h⟩;have hgz1:=hgz.1
 have HGZ:=aB hgz.2;clear ht he hf hk hgz htx hgx;cases hcb:bR L
 · rw [hcb] at HCK
   have HQ:Hid (∀ w',Below w.heap.size w w'→kR w L G (.returned (.tuple #[.slice none 0 0,.int .i64 42])) w'):=fun w' hb=>RK hcb hb
   go_enter Tryz.func63,Tryz.ntmps63
   go_wp2_with (go_at_call 115;refine (HCK.out _ (aV _ _ _)).mono ?_;rintro e w3 ⟨rfl,ok⟩;have HB3:=aB (HKB.out _ _ HBX.out ok);clear ok)
   go_ret2;exact HQ.out _ HB3.out.1
 · rw [hcb] at HCK
   cases hlb:cX G
   · rw [hlb] at HLE
     have HQ:Hid (∀ w',Below w.heap.size w w'→kR w L G (.returned (.tuple #[.slice none 0 0,.int .i64 33])) w'):=fun w' hb=>RL hcb hlb hb
     go_enter Tryz.func63,Tryz.ntmps63
     go_wp2_with (first
      |(go_at_call 115;refine (HCK.out _ (aV _ _ _)).mono ?_;rintro e w3 ⟨rfl,ok⟩;have HB3:=aB (HKB.out _ _ HBX.out ok);obtain ⟨_,⟨x0,x1⟩,⟨y0,y1⟩⟩:=HB3.out;clear ok)
      |(go_at_call 116;refine (HLE.out _ HB3.out.1).mono ?_;rintro e w4 ⟨rfl,ok⟩;have HB4:=aB (HKB.out _ _ HB3.out ok);clear ok))
     go_ret2;exact HQ.out _ HB4.out.1
   · rw [hlb] at HLE
     have hcc:=(cJ.1 hcb).1;have hl1:1≤L.length:=hcc.1;have hl2:L.length≤257:=hcc.2;have HTO:=aB (kS hlb);have HQN:Hid (fG L G=none→∀ w',Below w.heap.size w w'→kR w L G (.returned (.tuple #[.slice none 0 0,.int .i64 42])) w'):=fun h w' hb=>RM hcb hlb h hb
     have HQY:Hid (∀ m v w',fG L G=some m→OwnI w' w.heap.size v m→Below w.heap.size w w'→kR w L G (.returned (.tuple #[v,.int .i64 0])) w'):=fun m v w' h ho hb=>RN hcb hlb h ho hb
     have HRP:Hid (∀ w4,w.heap.size+2≤w4.heap.size→Calls Tryz.prog 117 #[.slice (some ⟨w4.heap.size,0,none⟩) 1 1,.int .i64 L.length] (w4.alloc (.cells #[.int .i64 (-1)] 3)) fun e w'=>∃ g,e= .returned (.slice (some ⟨g,0,none⟩) L.length L.length)∧w.heap.size+2≤g∧w'.heap[g]? =some (.cells (List.replicate L.length (Value.int .i64 (-1))).toArray 3 (0,0))∧Below w4.heap.size w4 w'):=fun w4 hs=>by
      refine (AH (g0:=w4.heap.size) (n:=L.length) (w:=w4.alloc (.cells #[.int .i64 (-1)] 3)) (by simp) hl1 (by omega)).mono ?_;rintro e w' ⟨rfl,h1,h2⟩;exact ⟨_,rfl,by simp;omega,h1,aA (aD _ _) h2⟩
     clear hcc hcb hlb
     go_enter Tryz.func63,Tryz.ntmps63
     go_wp2_with (first
      |(go_at_call 115;refine (HCK.out _ (aV _ _ _)).mono ?_;rintro e w3 ⟨rfl,ok⟩;have HB3:=aB (HKB.out _ _ HBX.out ok);obtain ⟨_,⟨x0,x1⟩,⟨y0,y1⟩⟩:=HB3.out;clear ok)
      |(go_at_call 116;refine (HLE.out _ HB3.out.1).mono ?_;rintro e w4 ⟨rfl,ok⟩;have HB4:=aB (HKB.out _ _ HB3.out ok);have z0:(w4.alloc (.cells #[.int .i64 (-1)] 3)).cell? ⟨w.heap.size,0,none⟩=some (.slice ta L.length tc):=((aD w4 (.cells #[.int .i64 (-1)] 3)).cell (p:=⟨w.heap.size,0,none⟩) HB4.out.2.1.2).trans HB4.out.2.1.1;clear ok)
      |(go_at_call 117;refine (HRP.out w4 HB4.out.2.2.2).mono ?_;rintro e w5 ⟨g,rfl,hg5,hr5,hb5⟩;have HB5:=aB (HKB.out _ _ HB4.out hb5);have HR5:=aB hr5;have n0:w5.cell? ⟨g,0,none⟩=some (.int .i64 (-1)):=(by rw [Lib.cell_of_heap hr5];show (List.replicate L.length (Value.int .i64 (-1))).toArray[0]? =_;rw [List.getElem?_toArray,List.getElem?_replicate,if_pos (show 0<L.length from hl1)]);have f0:w5.frozen? ⟨g,0,none⟩=false:=Lib.frozen_of_heap hr5 0;clear hb5 hr5))
     have HST:Hid (StM w (.slice ta L.length tc) (.slice ga G.length gc) g w5.heap.size 1 (cK L.length) ((w5.setCell ⟨g,0,none⟩ (.int .i64 0)).alloc (.cells #[.int .i64 0] 3))):=by
      have hlen:(List.replicate L.length (-1:Int)).length=L.length:=List.length_replicate;have h1:w5.ownsRow (w.heap.size+2) 3 1 (.slice (some ⟨g,0,none⟩) L.length L.length) L.length (gS (List.replicate L.length (-1))):=⟨by rw [wK,hlen,Nat.mul_one],Or.inr ⟨g,L.length,_,rfl,hg5,HR5.out,Nat.le_refl _,by unfold maxLen;omega,by simp,by simp [gS]⟩⟩;obtain ⟨h2,h3⟩:=World.ownsRow.stored h1 0 (.int .i64 0);have hs5:(w5.setCell ⟨g,0,none⟩ (.int .i64 0)).heap.size=w5.heap.size:=by simp
      have hB5:w.heap.size+2≤w5.heap.size:=HB5.out.2.2.2;have hg6:g<w5.heap.size:=(World.ownsRow.lt h1 g rfl).2;have hbb:=aD (w5.setCell ⟨g,0,none⟩ (.int .i64 0)) (.cells #[.int .i64 0] 3);refine ⟨⟨aA (HB5.out.1.grown h3 HB5.out.1.size (fun k hk=>by cases hk;omega)) hbb,cE _ _ _ _ ⟨h3.cell HB5.out.2.1.1 (by simp;omega),by rw [hs5];exact HB5.out.2.1.2⟩ hbb,cE _ _ _ _ ⟨h3.cell HB5.out.2.2.1 (by simp;omega),by rw [hs5];exact HB5.out.2.2.2⟩ hbb⟩,⟨?_,?_⟩,by omega⟩
      · have h4:=cH h2 hbb
        rw [←wL] at h4;have e:(cK L.length).m.length=L.length:=by simp [cK]
        rw [e];exact h4
      · refine ⟨rfl,Or.inr ⟨w5.heap.size,1,#[.int .i64 0],rfl,hB5,?_,Nat.le_refl _,by unfold maxLen;omega,rfl,rfl⟩⟩
        rw [←hs5];exact heap_alloc_new _ _
     clear n0 f0 z0 x0 x1 y0 y1;have HMI:Hid (MInv L G (cK L.length)):=MInv.start hl1 HTO.out.1
     go_loopw [8,9] (fun vq vi wr=>TU w (.slice ta L.length tc) (.slice ga G.length gc) g L G vq vi wr) (fun _ vi _=>L.length+1 - (intOf vi).toNat)
     case atStart=>exact ⟨cK L.length,0,w5.heap.size,1,HMI.out,Nat.zero_le _,rfl,rfl,HST.out,rfl⟩
     case round=>
      obtain ⟨st,i,q,c,hinv,hi,rfl,rfl,hst,hrun⟩:=hrel;have HIN:=aB hinv;have HSTM:=aB hst;have HRUN:=aB hrun;obtain ⟨wa,rfl⟩:∃ x,x=wr:=⟨wr,rfl⟩;have hqL:=hinv.short
      by_cases hlt:i<st.q.length
      · obtain ⟨r,hr⟩:∃ r,r=st.q[i]:=⟨_,rfl⟩
        obtain ⟨hrm,hr0⟩:=hinv.qin r (by rw [hr];exact List.getElem_mem hlt);have hrL:r<L.length:=by rw [←hinv.len];exact hrm
        obtain ⟨y,hy⟩:∃ y:Nat,st.m[r]=y:=⟨st.m[r].toNat,by omega⟩
        have hyG:y<G.length:=by
         rcases hinv.each r hrm with h|h
         · omega
         · rw [hy] at h;omega
        have HSQ:Hid (st.q[i]? =some r):=by unfold Hid;rw [List.getElem?_eq_getElem hlt,hr]
        have HED0:Hid (fG L G=(fE L G r G[y].ed st).bind (jS L G (L.length - i) (i+1))):=by
         unfold Hid;rw [HRUN.out,show L.length+1 - i=(L.length - i)+1 by omega,KG HSQ.out]
         have e:fF G st r=G[y].ed:=by
          unfold fF;rw [bH hrm,hy,Int.toNat_natCast,bH hyG]
         rw [e]
        obtain ⟨ga',gc',eq,_,hnd⟩:=HDG.out w (Below.refl _ _);cases eq
        obtain ⟨gg,go,rfl,_,hnz⟩:∃ g o,ga=some ⟨g,o,none⟩∧g<w.heap.size∧∀ i (h:i<G.length),∃ vc ve,NdIn w g (o+i*6) G[i] vc ve:=by
         rcases hnd with h|h
         · rw [h] at hyG;simp at hyG
         · exact h
        obtain ⟨vc,ve,hni⟩:=hnz y hyG;have HEA:Hid (∀ w1,Below w.heap.size w w1→EdgesAt w1 ve G[y].ed):=fun w1 hb=>hni.2.1.2.below hb
        have HNZ:Hid (∀ w1,Below w.heap.size w w1→∀ i (h:i<G.length),∃ vc ve,NdIn w1 gg (go+i*6) G[i] vc ve):=fun w1 hb i hi=>by obtain ⟨vc,ve,h⟩:=hnz i hi;exact ⟨vc,ve,h.below hb⟩
        have HTY:Hid (∀ e ∈ G[y].ed,0<e.to∧e.to<(G.length:Int)):=HTO.out.2 _ (List.getElem_mem hyG);have hez:=HGZ.out _ (List.getElem_mem hyG);have i1:=hst.seen hlt;rw [←hr] at i1;have i2:=hst.node hrm;rw [hy] at i2;obtain ⟨ea,ec,rfl⟩:=hni.2.1.2.sl;obtain ⟨pa,pc,rfl⟩:=hni.2.1.1.sl;generalize G[y]=nd at*;have HK:Hid (KeepP fun w1=>StM w (.slice ta L.length tc) (.slice (some ⟨gg,go,none⟩) G.length gc) g q c st w1∧(InI w1 q i (r:Int)∧InI w1 g r (y:Int))∧NdIn w1 gg (go+y*6) nd (.slice pa nd.cx.length pc) (.slice ea nd.ed.length ec)):=(kQ _ _ _ _ _ _ _).and (((gV _ _ _).and (gV _ _ _)).and (KH _ _ _ _ _));have HO:Hid (StM w (.slice ta L.length tc) (.slice (some ⟨gg,go,none⟩) G.length gc) g q c st wa∧(InI wa q i (r:Int)∧InI wa g r (y:Int))∧NdIn wa gg (go+y*6) nd (.slice pa nd.cx.length pc) (.slice ea nd.ed.length ec)):=⟨hst,⟨i1,i2⟩,hni.below hst.1.1⟩
        clear hst hrun hinv hnd hnz hni i1 i2 hr hy hr0 hrm
        go_wp2_with fail
        refine cI HK (by kernel_rfl) (by kernel_rfl) (by first|exact HO.out|exact HK.out.drew HO.out) ?_;intro C HIN HOUT;clear HO
        repeat
         (with_reducible refine wpQuiet_step (fun K hK=> ?_)
          go_simp
          first
           |(refine hK _ ?_;clear hK K)
           |(apply Exists.intro;refine ⟨fun w1 hC=> ?_,hK _ ?_⟩;(focus ((first|(exact rfl)|(obtain ⟨⟨⟨hb1,⟨t0,t1⟩,⟨u0,u1⟩⟩,_,_⟩,⟨⟨p0,p1⟩,⟨p2,p3⟩⟩,⟨⟨d0,d1,d2,d3,d4,d5⟩,_,dg⟩⟩:=HOUT.out w1 hC;clear hC;go_simp;first|done|exact rfl));done));clear hK K))
        refine wpQuiet_nil ?_;intro wn hC;have HO:=aB (HOUT.out _ hC);clear hC HIN HOUT C;obtain ⟨⟨⟨hb1,⟨t0,t1⟩,⟨u0,u1⟩⟩,_,_⟩,⟨⟨p0,p1⟩,⟨p2,p3⟩⟩,⟨⟨d0,d1,d2,d3,d4,d5⟩,_,dg⟩⟩:=HO.out
        go_wp2_with fail
        have HS0:Hid (StM w (.slice ta L.length tc) (.slice (some ⟨gg,go,none⟩) G.length gc) g q c st wn):=HO.out.1;clear HO HK hb1 t0 t1 u0 u1 p0 p1 p2 p3 d0 d1 d2 d3 d4 d5 dg
        go_loopw [8,48] (fun vq vj wx=>TV w (.slice ta L.length tc) (.slice (some ⟨gg,go,none⟩) G.length gc) g L G i r nd.ed vq vj wx) (fun _ vj _=>nd.ed.length - (intOf vj).toNat)
        case atStart=>exact ⟨st,0,q,c,HIN.out,Nat.zero_le _,HSQ.out,rfl,rfl,HS0.out,HED0.out⟩
        case round=>
         clear HS0 HSQ HED0 HIN HSTM HRUN;obtain ⟨st,j,q,c,hinv,hj,hsq,rfl,rfl,hst,hrun⟩:=hrel;have HIN:=aB hinv;have HSQ:=aB hsq;have HRUN:=aB hrun;have hqL:=hinv.short;have hiq:i<st.q.length:=(List.getElem?_eq_some_iff.1 hsq).1
         by_cases hlj:j<nd.ed.length
         · have hej:=HTY.out _ (List.getElem_mem hlj)
           obtain ⟨yt,hyt⟩:∃ yt:Nat,nd.ed[j].to=yt:=⟨nd.ed[j].to.toNat,by omega⟩;have hytG:yt<G.length:=by omega
           obtain ⟨ea',ec',eq2,_,hcs⟩:=HEA.out wr hst.1.1;cases eq2
           obtain ⟨eg,eo,rfl,heg,hcz⟩:∃ g o,ea=some ⟨g,o,none⟩∧g<wr.heap.size∧∀ i (h:i<nd.ed.length),EgIn wr g (o+i*2) nd.ed[i]:=by
            rcases hcs with h|h
            · rw [h] at hlj;simp at hlj
            · exact h
           obtain ⟨⟨e0,e1⟩,_⟩:=hcz j hlj;obtain ⟨ta',tc',eq3,_,hdd⟩:=HDT.out w (Below.refl _ _);cases eq3
           obtain ⟨tg,tf,rfl,hds⟩:∃ g o,ta=some ⟨g,o,none⟩∧∀ i (h:i<L.length),∃ u v1 v2 v3,DrIn w g (o+i*9) L[i] u v1 v2 v3:=by
            rcases hdd with h|h
            · rw [h] at hl1;simp at hl1
            · exact h
           have HDS:=aB hds
           have HSTEP:Hid (fG L G=((gC L G r st nd.ed[j]).bind (fE L G r (nd.ed.drop (j+1)))).bind (jS L G (L.length - i) (i+1))):=by
            unfold Hid;rw [HRUN.out,List.drop_eq_getElem_cons hlj];rfl
           have i1:=hst.seen hiq;have hqi:st.q[i]=r:=(List.getElem?_eq_some_iff.1 hsq).2;rw [hqi] at i1;clear hcs hdd hcz hds hqi hrun hinv hsq HRUN;generalize nd.ed[j]=e at*;have HL:=aB (fun w1 hb=>HLK.out w1 hb r e.lb);have HN1:Hid (bE L (r:Int) e.lb<0→fG L G=none):=fun h=>by rw [HSTEP.out,AJ h];rfl
           have HN2:Hid (∀ k,bE L (r:Int) e.lb=(k:Nat)→∀ hk:k<L.length,eN L[k] G[yt]=false→fG L G=none):=fun k h hk h2=>by rw [HSTEP.out,AK h hk hyt hytG h2];rfl
           have HN3:Hid (∀ k,bE L (r:Int) e.lb=(k:Nat)→∀ hk:k<L.length,eN L[k] G[yt]=true→∀ hm:k<st.m.length,st.m[k]<0→fG L G=(fE L G r (nd.ed.drop (j+1)) ⟨st.m.set k e.to,st.q++[k]⟩).bind (jS L G (L.length - i) (i+1))):=fun k h hk h2 hm hx=>by rw [HSTEP.out,KF h hk hyt hytG h2 hm hx];rfl
           have HN4:Hid (∀ k,bE L (r:Int) e.lb=(k:Nat)→∀ hk:k<L.length,eN L[k] G[yt]=true→∀ hm:k<st.m.length,¬ st.m[k]<0→¬ st.m[k]=e.to→fG L G=none):=fun k h hk h2 hm hx hy=>by rw [HSTEP.out,wM h hk hyt hytG h2 hm hx,if_neg hy];rfl
           have HN5:Hid (∀ k,bE L (r:Int) e.lb=(k:Nat)→∀ hk:k<L.length,eN L[k] G[yt]=true→∀ hm:k<st.m.length,¬ st.m[k]<0→st.m[k]=e.to→fG L G=(fE L G r (nd.ed.drop (j+1)) st).bind (jS L G (L.length - i) (i+1))):=fun k h hk h2 hm hx hy=>by rw [HSTEP.out,wM h hk hyt hytG h2 hm hx,if_pos hy];rfl
           have hlv:=oI L (r:Int) e.lb;generalize bE L (r:Int) e.lb=av at*;have HGQ:Hid (g<wr.heap.size∧q<wr.heap.size):=⟨(World.ownsRow.lt hst.2.1.1 g rfl).2,(World.ownsRow.lt hst.2.1.2 q rfl).2⟩;have HK:Hid (KeepP fun w1=>StM w (.slice (some ⟨tg,tf,none⟩) L.length tc) (.slice (some ⟨gg,go,none⟩) G.length gc) g q c st w1∧InI w1 q i (r:Int)∧BxE w1 wr.heap.size e):=(kQ _ _ _ _ _ _ _).and ((gV _ _ _).and (tO _ _))
           have HO:Hid (StM w (.slice (some ⟨tg,tf,none⟩) L.length tc) (.slice (some ⟨gg,go,none⟩) G.length gc) g q c st (wr.alloc (.cells #[.string e.lb,.int .i64 (yt:Int)] 62))∧InI (wr.alloc (.cells #[.string e.lb,.int .i64 (yt:Int)] 62)) q i (r:Int)∧BxE (wr.alloc (.cells #[.string e.lb,.int .i64 (yt:Int)] 62)) wr.heap.size e):=by
            unfold Hid;rw [←hyt];exact ⟨kQ _ _ _ _ _ _ _ _ _ hst (aD _ _),gV _ _ _ _ _ i1 (aD _ _),BxE.new _ _⟩
           clear hst i1 HSTEP
           rcases (show av= -1∨∃ k:Nat,av=k∧k<L.length by
            rcases (show av= -1∨0≤av by omega) with h|h
            · exact Or.inl h
            · exact Or.inr ⟨av.toNat,by omega,by omega⟩) with rfl|⟨k,rfl,hkL⟩
           · have HR:=aB (HN1.out (by decide))
             go_wp2_with fail
             refine cI HK (by kernel_rfl) (by kernel_rfl) (by first|exact HO.out|exact HK.out.drew HO.out) ?_;intro C HIN HOUT;clear HO
             repeat
              (with_reducible refine wpQuiet_step (fun K hK=> ?_)
               go_simp
               first
                |(refine hK _ ?_;clear hK K)
                |(apply Exists.intro;refine ⟨fun w1 hC=> ?_,hK _ ?_⟩;(focus ((first|(go_at_call 17;with_reducible exact bA HIN HOUT HK (fun w1 hk=>HL.out w1 (StM.bel hk.1)) w1 hC)|(exact rfl)|(obtain ⟨⟨⟨hb1,⟨t0,t1⟩,⟨u0,u1⟩⟩,_,_⟩,⟨p0,p1⟩,⟨⟨b0,b1⟩,b2⟩⟩:=HOUT.out w1 hC;clear hC;go_simp;first|done|exact rfl));done));clear hK K))
             refine wpQuiet_nil ?_;intro w15 hC;have HO:=aB (HOUT.out _ hC);clear hC HIN HOUT C;obtain ⟨⟨⟨hb1,⟨t0,t1⟩,⟨u0,u1⟩⟩,_,_⟩,⟨p0,p1⟩,⟨⟨b0,b1⟩,b2⟩⟩:=HO.out
             go_wp2_with fail
             clear hb1 t0 t1 u0 u1 p0 p1 b0 b1 b2;refine cI HK (by kernel_rfl) (by kernel_rfl) (by first|exact HO.out|exact HK.out.drew HO.out) ?_;intro C HIN HOUT;clear HO
             repeat
              (with_reducible refine wpQuiet_step (fun K hK=> ?_)
               go_simp
               first
                |(refine hK _ ?_;clear hK K)
                |(apply Exists.intro;refine ⟨fun w1 hC=> ?_,hK _ ?_⟩;(focus ((first|(exact rfl)|(obtain ⟨⟨⟨hb1,⟨t0,t1⟩,⟨u0,u1⟩⟩,_,_⟩,⟨p0,p1⟩,⟨⟨b0,b1⟩,b2⟩⟩:=HOUT.out w1 hC;clear hC;go_simp;first|done|exact rfl));done));clear hK K))
             refine wpQuiet_nil ?_;intro w16 hC;have HO:=aB (HOUT.out _ hC);clear hC HIN HOUT C;obtain ⟨⟨⟨hb1,⟨t0,t1⟩,⟨u0,u1⟩⟩,_,_⟩,⟨p0,p1⟩,⟨⟨b0,b1⟩,b2⟩⟩:=HO.out
             go_wp2
             go_ret2;exact HQN.out HR.out _ HO.out.1.1.1
           · go_wp2_with fail
             refine cI HK (by kernel_rfl) (by kernel_rfl) (by first|exact HO.out|exact HK.out.drew HO.out) ?_;intro C HIN HOUT;clear HO
             repeat
              (with_reducible refine wpQuiet_step (fun K hK=> ?_)
               go_simp
               first
                |(refine hK _ ?_;clear hK K)
                |(apply Exists.intro;refine ⟨fun w1 hC=> ?_,hK _ ?_⟩;(focus ((first|(go_at_call 17;with_reducible exact bA HIN HOUT HK (fun w1 hk=>HL.out w1 (StM.bel hk.1)) w1 hC)|(exact rfl)|(obtain ⟨⟨⟨hb1,⟨t0,t1⟩,⟨u0,u1⟩⟩,_,_⟩,⟨p0,p1⟩,⟨⟨b0,b1⟩,b2⟩⟩:=HOUT.out w1 hC;clear hC;go_simp;first|done|exact rfl));done));clear hK K))
             refine wpQuiet_nil ?_;intro w15 hC;have HO:=aB (HOUT.out _ hC);clear hC HIN HOUT C;obtain ⟨⟨⟨hb1,⟨t0,t1⟩,⟨u0,u1⟩⟩,_,_⟩,⟨p0,p1⟩,⟨⟨b0,b1⟩,b2⟩⟩:=HO.out
             go_wp2_with fail
             clear t0 t1 u0 u1 p0 p1 b0 b1 b2;have hmk:k<st.m.length:=by rw [HIN.out.len];exact hkL
             have HMK:=aB (HIN.out.each k hmk);obtain ⟨u,v1,v2,v3,hdk⟩:=HDS.out k hkL;obtain ⟨vc2,ve2,hn2⟩:=HNZ.out w (Below.refl _ _) yt hytG;obtain ⟨ua,uc,rfl⟩:=hdk.2.1.1.sl;obtain ⟨x1,z1,rfl⟩:=hdk.2.1.2.1.sl;obtain ⟨x2,z2,rfl⟩:=hdk.2.1.2.2.1.sl;obtain ⟨x3,z3,rfl⟩:=hdk.2.1.2.2.2.sl;obtain ⟨y1,k1,rfl⟩:=hn2.2.1.1.sl;obtain ⟨y2,k2,rfl⟩:=hn2.2.1.2.sl;have HIS:=aB (KD L[k] G[yt] ua x1 x2 x3 y1 y2 L[k].pa.length uc L[k].pk.d.length z1 L[k].pk.p.length z2 L[k].pk.o.length z3 G[yt].cx.length k1 G[yt].ed.length k2);have H2:=aB (HN2.out k rfl hkL);have H3:=aB (fun h=>HN3.out k rfl hkL h hmk);have H4:=aB (fun h=>HN4.out k rfl hkL h hmk);have H5:=aB (fun h=>HN5.out k rfl hkL h hmk);have HMS:Hid (∀ w1,StM w (.slice (some ⟨tg,tf,none⟩) L.length tc) (.slice (some ⟨gg,go,none⟩) G.length gc) g q c st w1→InI w1 g k st.m[k]):=fun w1 h=>h.node hmk
             have HIV:Hid (st.m[k]<0→MInv L G ⟨st.m.set k e.to,st.q++[k]⟩):=fun h=>HIN.out.set hmk h hej.1 hej.2
             have hkm:=hmk;generalize eN L[k] G[yt]=ib at*;generalize L[k]=dk at*;generalize G[yt]=n2 at*;generalize st.m[k]=xm at*;have HD2:Hid (DrIn w15 tg (tf+k*9) dk (.slice ua dk.pa.length uc) (.slice x1 dk.pk.d.length z1) (.slice x2 dk.pk.p.length z2) (.slice x3 dk.pk.o.length z3)∧NdIn w15 gg (go+yt*6) n2 (.slice y1 n2.cx.length k1) (.slice y2 n2.ed.length k2)):=⟨hdk.below HO.out.1.1.1,hn2.below HO.out.1.1.1⟩;have HS15:=aB HO.out.1;have HE15:=aB HO.out.2.2;clear HO HK hdk hn2 hb1 HN1 HN2 HN3 HN4 HN5 HL
             have HK:Hid (KeepP fun w1=>StM w (.slice (some ⟨tg,tf,none⟩) L.length tc) (.slice (some ⟨gg,go,none⟩) G.length gc) g q c st w1∧(InI w1 g k xm∧BxE w1 wr.heap.size e)∧DrIn w1 tg (tf+k*9) dk (.slice ua dk.pa.length uc) (.slice x1 dk.pk.d.length z1) (.slice x2 dk.pk.p.length z2) (.slice x3 dk.pk.o.length z3)∧NdIn w1 gg (go+yt*6) n2 (.slice y1 n2.cx.length k1) (.slice y2 n2.ed.length k2)):=(kQ _ _ _ _ _ _ _).and (((gV _ _ _).and (tO _ _)).and ((oF _ _ _ _ _ _ _).and (KH _ _ _ _ _)))
             have HO:Hid (StM w (.slice (some ⟨tg,tf,none⟩) L.length tc) (.slice (some ⟨gg,go,none⟩) G.length gc) g q c st w15∧(InI w15 g k xm∧BxE w15 wr.heap.size e)∧DrIn w15 tg (tf+k*9) dk (.slice ua dk.pa.length uc) (.slice x1 dk.pk.d.length z1) (.slice x2 dk.pk.p.length z2) (.slice x3 dk.pk.o.length z3)∧NdIn w15 gg (go+yt*6) n2 (.slice y1 n2.cx.length k1) (.slice y2 n2.ed.length k2)):=⟨HS15.out,⟨HMS.out _ HS15.out,HE15.out⟩,HD2.out⟩;obtain ⟨⟨⟨hb1,⟨t0,t1⟩,⟨u0,u1⟩⟩,_,_⟩,⟨⟨n0,n1⟩,⟨⟨b0,b1⟩,b2⟩⟩,⟨⟨d0,d1,d2,d3,d4,d5,d6,d7,d8⟩,_,dg⟩,⟨⟨m0,m1,m2,m3,m4,m5⟩,_,mg⟩⟩:=HO.out;clear hb1 t0 t1 u0 u1 n0 n1 b0 b1 b2 d0 d1 d2 d3 d4 d5 d6 d7 d8 dg m0 m1 m2 m3 m4 m5 mg HD2 HS15 HE15;cases ib
             · have HR:=aB (H2.out rfl)
               refine cI HK (by kernel_rfl) (by kernel_rfl) (by first|exact HO.out|exact HK.out.drew HO.out) ?_;intro C HIN HOUT;clear HO
               repeat
                (with_reducible refine wpQuiet_step (fun K hK=> ?_)
                 go_simp
                 first
                  |(refine hK _ ?_;clear hK K)
                  |(apply Exists.intro;refine ⟨fun w1 hC=> ?_,hK _ ?_⟩;(focus ((first|(go_at_call 118;with_reducible exact dT HIN HOUT HK HIS.out w1 hC)|(exact rfl)|(obtain ⟨⟨⟨hb1,⟨t0,t1⟩,⟨u0,u1⟩⟩,_,_⟩,⟨⟨n0,n1⟩,⟨⟨b0,b1⟩,b2⟩⟩,⟨⟨d0,d1,d2,d3,d4,d5,d6,d7,d8⟩,_,dg⟩,⟨⟨m0,m1,m2,m3,m4,m5⟩,_,mg⟩⟩:=HOUT.out w1 hC;clear hC;go_simp;first|done|exact rfl));done));clear hK K))
               refine wpQuiet_nil ?_;intro w16 hC;have HO:=aB (HOUT.out _ hC);clear hC HIN HOUT C;obtain ⟨⟨⟨hb1,⟨t0,t1⟩,⟨u0,u1⟩⟩,_,_⟩,⟨⟨n0,n1⟩,⟨⟨b0,b1⟩,b2⟩⟩,⟨⟨d0,d1,d2,d3,d4,d5,d6,d7,d8⟩,_,dg⟩,⟨⟨m0,m1,m2,m3,m4,m5⟩,_,mg⟩⟩:=HO.out
               go_wp2
               go_ret2;exact HQN.out HR.out _ HO.out.1.1.1
             · by_cases hx:xm<0
               · have HR:=aB (H3.out rfl hx)
                 have HIV2:=aB (HIV.out hx);refine cI HK (by kernel_rfl) (by kernel_rfl) (by first|exact HO.out|exact HK.out.drew HO.out) ?_;intro C HIN HOUT;clear HO
                 repeat
                  (with_reducible refine wpQuiet_step (fun K hK=> ?_)
                   go_simp
                   first
                    |(refine hK _ ?_;clear hK K)
                    |(apply Exists.intro;refine ⟨fun w1 hC=> ?_,hK _ ?_⟩;(focus ((first|(go_at_call 118;with_reducible exact dT HIN HOUT HK HIS.out w1 hC)|(exact rfl)|(obtain ⟨⟨⟨hb1,⟨t0,t1⟩,⟨u0,u1⟩⟩,_,_⟩,⟨⟨n0,n1⟩,⟨⟨b0,b1⟩,b2⟩⟩,⟨⟨d0,d1,d2,d3,d4,d5,d6,d7,d8⟩,_,dg⟩,⟨⟨m0,m1,m2,m3,m4,m5⟩,_,mg⟩⟩:=HOUT.out w1 hC;clear hC;go_simp;first|done|exact rfl));done));clear hK K))
                 refine wpQuiet_nil ?_;intro w16 hC;have HO:=aB (HOUT.out _ hC);clear hC HIN HOUT C;obtain ⟨⟨⟨hb1,⟨t0,t1⟩,⟨u0,u1⟩⟩,_,_⟩,⟨⟨n0,n1⟩,⟨⟨b0,b1⟩,b2⟩⟩,⟨⟨d0,d1,d2,d3,d4,d5,d6,d7,d8⟩,_,dg⟩,⟨⟨m0,m1,m2,m3,m4,m5⟩,_,mg⟩⟩:=HO.out;have HS16:=aB HO.out.1;have HS17:Hid (StM w (.slice (some ⟨tg,tf,none⟩) L.length tc) (.slice (some ⟨gg,go,none⟩) G.length gc) g q c ⟨st.m.set k (yt:Int),st.q⟩ (w16.setCell ⟨g,k,none⟩ (.int .i64 (yt:Int)))):=StM.put HO.out.1 k (yt:Int);have HOW17:Hid ((w16.setCell ⟨g,k,none⟩ (.int .i64 (yt:Int))).ownsRow (w.heap.size+2) 3 1 (.slice (some ⟨q,0,none⟩) st.q.length c) st.q.length (tM st.q)):=HS17.out.2.1.2;have fz:w16.frozen? ⟨g,k,none⟩=false:=World.ownsRow.frozenAt HO.out.1.2.1.1 k;have hB17:w.heap.size+2≤(w16.setCell ⟨g,k,none⟩ (.int .i64 (yt:Int))).heap.size:=HS17.out.1.2.2.2;have HE16:Hid (BxE w16 wr.heap.size e):=HO.out.2.1.2
                 have HE17:Hid (BxE (w16.setCell ⟨g,k,none⟩ (.int .i64 (yt:Int))) wr.heap.size e):=by
                  have h3:=(World.ownsRow.stored HO.out.1.2.1.1 k (.int .i64 (yt:Int))).2
                  have:=HGQ.out.1
                  exact ⟨⟨h3.cell HE16.out.1.1 (by simp;omega),h3.cell HE16.out.1.2 (by simp;omega)⟩,Nat.lt_of_lt_of_le HE16.out.2 h3.size⟩
                 clear HO HK
                 go_wp2_with (at_builtin;refine OH (B:=w.heap.size+2) (wx:=w16.setCell ⟨g,k,none⟩ (.int .i64 (yt:Int))) (x:=(k:Int)) (v:= .slice (some ⟨q,0,none⟩) st.q.length c) (n:=st.q.length) rfl (.tmp 87) (.tmp 89) rfl rfl HOW17.out hB17 (by simp) rfl (by omega) ?_;intro v20 w20 ho hgr hat;obtain ⟨q2,c2,rfl,hs20⟩:=StM.app HS17.out k ho (iF (aD _ _) hgr) hat;have HS20:=aB hs20;have HE20:Hid (BxE w20 wr.heap.size e):=(by have hgo:=iF (aD _ _) hgr;have:=HGQ.out.2;exact ⟨⟨hgo.cell HE17.out.1.1 (by simp [Value.ownBlock];omega),hgo.cell HE17.out.1.2 (by simp [Value.ownBlock];omega)⟩,Nat.lt_of_lt_of_le HE17.out.2 hgo.size⟩);clear ho hgr hat hs20)
                 clear hb1 t0 t1 u0 u1 n0 n1 b0 b1 b2 d0 d1 d2 d3 d4 d5 d6 d7 d8 dg m0 m1 m2 m3 m4 m5 mg fz;have HSQ2:Hid ((st.q++[k])[i]? =some r):=by unfold Hid;rw [List.getElem?_append_left hiq];exact HSQ.out
                 have HIK:Hid (InI w20 g k (yt:Int)):=by
                  have h:=HS20.out.node (k:=k) (by simpa using hkm);have e2:(MS.mk (st.m.set k (yt:Int)) (st.q++[k])).m[k]'(by simpa using hkm)=(yt:Int):=List.getElem_set_self _;rw [e2] at h;exact h
                 have HK:Hid (KeepP fun w1=>StM w (.slice (some ⟨tg,tf,none⟩) L.length tc) (.slice (some ⟨gg,go,none⟩) G.length gc) g q2 c2 ⟨st.m.set k (yt:Int),st.q++[k]⟩ w1∧InI w1 g k (yt:Int)∧BxE w1 wr.heap.size e):=(kQ _ _ _ _ _ _ _).and ((gV _ _ _).and (tO _ _));have HO:Hid (StM w (.slice (some ⟨tg,tf,none⟩) L.length tc) (.slice (some ⟨gg,go,none⟩) G.length gc) g q2 c2 ⟨st.m.set k (yt:Int),st.q++[k]⟩ w20∧InI w20 g k (yt:Int)∧BxE w20 wr.heap.size e):=⟨HS20.out,HIK.out,HE20.out⟩;refine cI HK (by kernel_rfl) (by kernel_rfl) (by first|exact HO.out|exact HK.out.drew HO.out) ?_;intro C HIN HOUT;clear HO
                 repeat
                  (with_reducible refine wpQuiet_step (fun K hK=> ?_)
                   go_simp
                   first
                    |(refine hK _ ?_;clear hK K)
                    |(apply Exists.intro;refine ⟨fun w1 hC=> ?_,hK _ ?_⟩;(focus ((first|(exact rfl)|(obtain ⟨⟨⟨hb1,⟨t0,t1⟩,⟨u0,u1⟩⟩,_,_⟩,⟨n0,n1⟩,⟨⟨b0,b1⟩,b2⟩⟩:=HOUT.out w1 hC;clear hC;go_simp;first|done|exact rfl));done));clear hK K))
                 refine wpQuiet_nil ?_;intro w21 hC;have HO:=aB (HOUT.out _ hC);clear hC HIN HOUT C;obtain ⟨⟨⟨hb1,⟨t0,t1⟩,⟨u0,u1⟩⟩,_,_⟩,⟨n0,n1⟩,⟨⟨b0,b1⟩,b2⟩⟩:=HO.out
                 go_wp2
                 rw [hyt] at HR HIV2;exact ⟨⟨⟨st.m.set k (yt:Int),st.q++[k]⟩,j+1,q2,c2,HIV2.out,by omega,HSQ2.out,by go_num,(by show _=Value.slice _ (st.q++[k]).length _;rw [List.length_append];rfl),HO.out.1,HR.out⟩,by simp [intOf];omega⟩
               · by_cases hxe:xm=e.to
                 · have HR:=aB (H5.out rfl (by omega) hxe)
                   subst hxe;refine cI HK (by kernel_rfl) (by kernel_rfl) (by first|exact HO.out|exact HK.out.drew HO.out) ?_;intro C HIN HOUT;clear HO
                   repeat
                    (with_reducible refine wpQuiet_step (fun K hK=> ?_)
                     go_simp
                     first
                      |(refine hK _ ?_;clear hK K)
                      |(apply Exists.intro;refine ⟨fun w1 hC=> ?_,hK _ ?_⟩;(focus ((first|(go_at_call 118;with_reducible exact dT HIN HOUT HK HIS.out w1 hC)|(exact rfl)|(obtain ⟨⟨⟨hb1,⟨t0,t1⟩,⟨u0,u1⟩⟩,_,_⟩,⟨⟨n0,n1⟩,⟨⟨b0,b1⟩,b2⟩⟩,⟨⟨d0,d1,d2,d3,d4,d5,d6,d7,d8⟩,_,dg⟩,⟨⟨m0,m1,m2,m3,m4,m5⟩,_,mg⟩⟩:=HOUT.out w1 hC;clear hC;go_simp;first|done|exact rfl));done));clear hK K))
                   refine wpQuiet_nil ?_;intro w16 hC;have HO:=aB (HOUT.out _ hC);clear hC HIN HOUT C;obtain ⟨⟨⟨hb1,⟨t0,t1⟩,⟨u0,u1⟩⟩,_,_⟩,⟨⟨n0,n1⟩,⟨⟨b0,b1⟩,b2⟩⟩,⟨⟨d0,d1,d2,d3,d4,d5,d6,d7,d8⟩,_,dg⟩,⟨⟨m0,m1,m2,m3,m4,m5⟩,_,mg⟩⟩:=HO.out
                   go_wp2_with fail
                   clear hb1 t0 t1 u0 u1 n0 n1 b0 b1 b2 d0 d1 d2 d3 d4 d5 d6 d7 d8 dg m0 m1 m2 m3 m4 m5 mg;refine cI HK (by kernel_rfl) (by kernel_rfl) (by first|exact HO.out|exact HK.out.drew HO.out) ?_;intro C HIN HOUT;clear HO
                   repeat
                    (with_reducible refine wpQuiet_step (fun K hK=> ?_)
                     go_simp
                     first
                      |(refine hK _ ?_;clear hK K)
                      |(apply Exists.intro;refine ⟨fun w1 hC=> ?_,hK _ ?_⟩;(focus ((first|(exact rfl)|(obtain ⟨⟨⟨hb1,⟨t0,t1⟩,⟨u0,u1⟩⟩,_,_⟩,⟨⟨n0,n1⟩,⟨⟨b0,b1⟩,b2⟩⟩,⟨⟨d0,d1,d2,d3,d4,d5,d6,d7,d8⟩,_,dg⟩,⟨⟨m0,m1,m2,m3,m4,m5⟩,_,mg⟩⟩:=HOUT.out w1 hC;clear hC;go_simp;first|done|exact rfl));done));clear hK K))
                   refine wpQuiet_nil ?_;intro w21 hC;have HO:=aB (HOUT.out _ hC);clear hC HIN HOUT C;obtain ⟨⟨⟨hb1,⟨t0,t1⟩,⟨u0,u1⟩⟩,_,_⟩,⟨⟨n0,n1⟩,⟨⟨b0,b1⟩,b2⟩⟩,⟨⟨d0,d1,d2,d3,d4,d5,d6,d7,d8⟩,_,dg⟩,⟨⟨m0,m1,m2,m3,m4,m5⟩,_,mg⟩⟩:=HO.out
                   go_wp2
                   exact ⟨⟨st,j+1,q,c,HIN.out,by omega,HSQ.out,by go_num,rfl,HO.out.1,HR.out⟩,by simp [intOf];omega⟩
                 · have HR:=aB (H4.out rfl (by omega) hxe)
                   have hxb:(xm==e.to)=false:=by rw [beq_eq_false_iff_ne];exact hxe
                   refine cI HK (by kernel_rfl) (by kernel_rfl) (by first|exact HO.out|exact HK.out.drew HO.out) ?_;intro C HIN HOUT;clear HO
                   repeat
                    (with_reducible refine wpQuiet_step (fun K hK=> ?_)
                     go_simp
                     first
                      |(refine hK _ ?_;clear hK K)
                      |(apply Exists.intro;refine ⟨fun w1 hC=> ?_,hK _ ?_⟩;(focus ((first|(go_at_call 118;with_reducible exact dT HIN HOUT HK HIS.out w1 hC)|(exact rfl)|(obtain ⟨⟨⟨hb1,⟨t0,t1⟩,⟨u0,u1⟩⟩,_,_⟩,⟨⟨n0,n1⟩,⟨⟨b0,b1⟩,b2⟩⟩,⟨⟨d0,d1,d2,d3,d4,d5,d6,d7,d8⟩,_,dg⟩,⟨⟨m0,m1,m2,m3,m4,m5⟩,_,mg⟩⟩:=HOUT.out w1 hC;clear hC;go_simp;first|done|exact rfl));done));clear hK K))
                   refine wpQuiet_nil ?_;intro w16 hC;have HO:=aB (HOUT.out _ hC);clear hC HIN HOUT C;obtain ⟨⟨⟨hb1,⟨t0,t1⟩,⟨u0,u1⟩⟩,_,_⟩,⟨⟨n0,n1⟩,⟨⟨b0,b1⟩,b2⟩⟩,⟨⟨d0,d1,d2,d3,d4,d5,d6,d7,d8⟩,_,dg⟩,⟨⟨m0,m1,m2,m3,m4,m5⟩,_,mg⟩⟩:=HO.out
                   go_wp2_with fail
                   clear hb1 t0 t1 u0 u1 n0 n1 b0 b1 b2 d0 d1 d2 d3 d4 d5 d6 d7 d8 dg m0 m1 m2 m3 m4 m5 mg;refine cI HK (by kernel_rfl) (by kernel_rfl) (by first|exact HO.out|exact HK.out.drew HO.out) ?_;intro C HIN HOUT;clear HO
                   repeat
                    (with_reducible refine wpQuiet_step (fun K hK=> ?_)
                     go_simp
                     first
                      |(refine hK _ ?_;clear hK K)
                      |(apply Exists.intro;refine ⟨fun w1 hC=> ?_,hK _ ?_⟩;(focus ((first|(exact rfl)|(obtain ⟨⟨⟨hb1,⟨t0,t1⟩,⟨u0,u1⟩⟩,_,_⟩,⟨⟨n0,n1⟩,⟨⟨b0,b1⟩,b2⟩⟩,⟨⟨d0,d1,d2,d3,d4,d5,d6,d7,d8⟩,_,dg⟩,⟨⟨m0,m1,m2,m3,m4,m5⟩,_,mg⟩⟩:=HOUT.out w1 hC;clear hC;go_simp;first|done|exact rfl));done));clear hK K))
                   refine wpQuiet_nil ?_;intro w21 hC;have HO:=aB (HOUT.out _ hC);clear hC HIN HOUT C;obtain ⟨⟨⟨hb1,⟨t0,t1⟩,⟨u0,u1⟩⟩,_,_⟩,⟨⟨n0,n1⟩,⟨⟨b0,b1⟩,b2⟩⟩,⟨⟨d0,d1,d2,d3,d4,d5,d6,d7,d8⟩,_,dg⟩,⟨⟨m0,m1,m2,m3,m4,m5⟩,_,mg⟩⟩:=HO.out
                   go_wp2
                   go_ret2;exact HQN.out HR.out _ HO.out.1.1.1
         · obtain rfl:j=nd.ed.length:=by omega
           have HR:Hid (fG L G=jS L G (L.length+1 - (i+1)) (i+1) st):=by
            unfold Hid;rw [HRUN.out,List.drop_length,show L.length+1 - (i+1)=L.length - i by omega];rfl
           have HS1:=aB hst;clear hst hrun hsq hinv
           go_wp2
           exact ⟨⟨st,i+1,q,c,HIN.out,hiq,by go_num,rfl,HS1.out,HR.out⟩,by simp [intOf];omega⟩
      · obtain rfl:i=st.q.length:=by omega
        have HR:Hid (fG L G=some st.m):=by
         unfold Hid;rw [HRUN.out,show L.length+1 - st.q.length=(L.length - st.q.length)+1 by omega];exact DC (List.getElem?_eq_none (Nat.le_refl _))
        have HOI:Hid (OwnI wa w.heap.size (.slice (some ⟨g,0,none⟩) L.length L.length) st.m):=by
         have h:=hst.2.1.1;rw [hinv.len] at h;unfold Hid OwnI;rw [hinv.len];exact cN h (by omega)
        have HBE:=aB hst.1.1;clear hst hrun hinv
        go_wp2
        go_ret2;exact HQY.out _ _ _ HR.out HOI.out HBE.out
end Go.Proofs.YtlmpiohbmlddiaaGreatDoor
namespace Go.Proofs.YtlmpiohbmlddiaaGreatDoor
open Go.Shelf Go.RowKit Go.Lib Go.Sort
set_option maxRecDepth 100000
noncomputable def stB (p q:List ByteArray):Bool:=decide (0<p.length)&&eqB (p.take (p.length - 1)) q
theorem DE {p q:List ByteArray}:stB p q=true↔0<p.length∧p.take (p.length - 1)=q:=by
 unfold stB;rw [Bool.and_eq_true,decide_eq_true_iff,eO]
theorem QA:∀ a b:List UInt8,Op.bytesLess a b=bytesBefore a b
 |[],[]=>rfl
 |[],_::_=>rfl
 |_::_,[]=>rfl
 |a::r,b::s=>by unfold Op.bytesLess bytesBefore;rw [QA r s]
end Go.Proofs.YtlmpiohbmlddiaaGreatDoor
