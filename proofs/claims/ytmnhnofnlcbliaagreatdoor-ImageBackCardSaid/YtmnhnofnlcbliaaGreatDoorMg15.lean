/- Tw11, In1, Ip1: their declarations that are needed, laid in one text, remarks and blanks left out. -/
import Derived.Test.YtmnhnofnlcbliaaGreatDoorMg14
namespace Go.Proofs.YtmnhnofnlcbliaaGreatDoor
open Go.RowKit
set_option maxRecDepth 100000
theorem qG {G:List Nd} (h:eM G=true):0<G.length∧∀ n ∈ G,∀ e ∈ n.ed,0<e.to∧e.to<(G.length:Int):=by
 unfold eM at h;simp only [Bool.and_eq_true,decide_eq_true_eq,List.all_eq_true,toB] at h;exact ⟨h.1,fun n hn e he=>h.2 n hn e he⟩
theorem CL {w w':World} {L:List Dr} {G:List Nd} {x:Int} (h1:lQ L G=x) (h2:fV L G=[]) (hb:Below w.heap.size w w'):qF w L G (.returned (.tuple #[.slice none 0 0,.int .i64 x])) w':=
 ⟨_,by rw [h1],by rw [h2];exact ⟨rfl,Or.inl ⟨rfl,rfl⟩⟩,hb⟩
theorem Eo {w w':World} {L:List Dr} {G:List Nd} (h:cH L=false) (hb:Below w.heap.size w w'):qF w L G (.returned (.tuple #[.slice none 0 0,.int .i64 42])) w':=
 CL (by unfold lQ;rw [if_neg (by rw [h];simp)]) (by unfold fV;rw [if_neg (by rw [h];simp)]) hb
theorem Ep {w w':World} {L:List Dr} {G:List Nd} (h0:cH L=true) (h:eM G=false) (hb:Below w.heap.size w w'):qF w L G (.returned (.tuple #[.slice none 0 0,.int .i64 33])) w':=
 CL (by unfold lQ;rw [if_pos h0,if_neg (by rw [h];simp)]) (by unfold fV;rw [if_neg (by rw [h];simp)]) hb
theorem Er {w w':World} {L:List Dr} {G:List Nd} (h0:cH L=true) (h1:eM G=true) (h:iN L G=none) (hb:Below w.heap.size w w'):qF w L G (.returned (.tuple #[.slice none 0 0,.int .i64 42])) w':=
 CL (by unfold lQ;rw [if_pos h0,if_pos h1,if_neg (by rw [h];simp)]) (by unfold fV;rw [if_pos ⟨h0,h1⟩,h];rfl) hb
theorem Es {w w':World} {L:List Dr} {G:List Nd} {m:List Int} {v:Value} (h0:cH L=true) (h1:eM G=true) (h:iN L G=some m) (ho:OwnI w' w.heap.size v m) (hb:Below w.heap.size w w'):qF w L G (.returned (.tuple #[v,.int .i64 0])) w':=
 ⟨v,by unfold lQ;rw [if_pos h0,if_pos h1,if_pos (by rw [h];rfl)],by unfold fV;rw [if_pos ⟨h0,h1⟩,h];exact ho,hb⟩
theorem bN {α:Type} {l:List α} {k:Nat} {d:α} (h:k<l.length):l.getD k d=l[k]:=by
 rw [List.getD_eq_getElem?_getD,List.getElem?_eq_getElem h];rfl
theorem MH {L:List Dr} {G:List Nd} {r:Nat} {st:MS} {e:Eg} (h:cR L (r:Int) e.lb<0):gL L G r st e=none:=by unfold gL;rw [if_pos h]
theorem MI {L:List Dr} {G:List Nd} {r k y:Nat} {st:MS} {e:Eg} (h:cR L (r:Int) e.lb=k) (hk:k<L.length) (hy:e.to=y) (hyl:y<G.length) (h2:gH L[k] G[y]=false):gL L G r st e=none:=by
 unfold gL;rw [h,hy,if_neg (by omega),Int.toNat_natCast,Int.toNat_natCast,if_pos];rw [bN hk,bN hyl];exact h2
theorem XQ {L:List Dr} {G:List Nd} {r k y:Nat} {st:MS} {e:Eg} (h:cR L (r:Int) e.lb=k) (hk:k<L.length) (hy:e.to=y) (hyl:y<G.length) (h2:gH L[k] G[y]=true) (hm:k<st.m.length) (hx:st.m[k]<0):gL L G r st e=some ⟨st.m.set k e.to,st.q++[k]⟩:=by
 unfold gL;rw [h,hy,if_neg (by omega),Int.toNat_natCast,Int.toNat_natCast,if_neg,if_pos]
 · rw [bN hm];exact hx
 · rw [bN hk,bN hyl,h2];simp
theorem GP {L:List Dr} {G:List Nd} {r k y:Nat} {st:MS} {e:Eg} (h:cR L (r:Int) e.lb=k) (hk:k<L.length) (hy:e.to=y) (hyl:y<G.length) (h2:gH L[k] G[y]=true) (hm:k<st.m.length) (hx:¬ st.m[k]<0):gL L G r st e=if st.m[k]=e.to then some st else none:=by
 unfold gL;rw [h,hy,if_neg (by omega),Int.toNat_natCast,Int.toNat_natCast,if_neg,if_neg]
 · rw [bN hm]
 · rw [bN hm];exact hx
 · rw [bN hk,bN hyl,h2];simp
theorem XR {L:List Dr} {G:List Nd} {n i r:Nat} {st:MS} (h:st.q[i]? =some r):kS L G (n+1) i st=(eN L G r (iH G st r) st).bind (kS L G n (i+1)):=by rw [kS,h]
theorem PQ {L:List Dr} {G:List Nd} {n i:Nat} {st:MS} (h:st.q[i]? =none):kS L G (n+1) i st=some st.m:=by rw [kS,h]
def Gl (w:World) (vt vg:Value) (g:Nat) (L:List Dr) (G:List Nd) (vq vi:Value) (wr:World):Prop:=
 ∃ st i q c,MInv L G st∧i≤st.q.length∧vi= .int .i64 (i:Nat)∧vq= .slice (some ⟨q,0,none⟩) st.q.length c∧StM w vt vg g q c st wr∧iN L G=kS L G (L.length+1 - i) i st
def Gm (w:World) (vt vg:Value) (g:Nat) (L:List Dr) (G:List Nd) (i r:Nat) (ed:List Eg) (vq vj:Value) (wr:World):Prop:=
 ∃ st j q c,MInv L G st∧j≤ed.length∧st.q[i]? =some r∧vj= .int .i64 (j:Nat)∧vq= .slice (some ⟨q,0,none⟩) st.q.length c∧StM w vt vg g q c st wr∧iN L G=(eN L G r (ed.drop j) st).bind (kS L G (L.length - i) (i+1))
theorem StM.bel {w:World} {vt vg:Value} {g q c:Nat} {st:MS} {wr:World} (h:StM w vt vg g q c st wr):Below w.heap.size w wr:=h.1.1
def BxE (w:World) (N:Nat) (e:Eg):Prop:=(w.cell? ⟨N,0,none⟩=some (.string e.lb)∧w.cell? ⟨N,1,none⟩=some (.int .i64 e.to))∧N<w.heap.size
theorem CM (N:Nat) (e:Eg):KeepP fun w1=>BxE w1 N e:=fun w w' h hb=>by
 obtain ⟨⟨h0,h1⟩,hg⟩:=h;exact ⟨⟨(hb.cell (p:=⟨N,0,none⟩) hg).trans h0,(hb.cell (p:=⟨N,1,none⟩) hg).trans h1⟩,Nat.lt_of_lt_of_le hg hb.size⟩
theorem BxE.new (w:World) (e:Eg):BxE (w.alloc (.cells #[.string e.lb,.int .i64 e.to] 62)) w.heap.size e:=⟨⟨by simp,by simp⟩,by simp⟩
theorem eB {w:World} {B B':Nat} {e:TypeId} {sz:Nat} {v:Value} {n:Nat} {xs:List Value} (h:w.ownsRow B e sz v n xs) (hb:B'≤B):w.ownsRow B' e sz v n xs:=⟨h.1,h.2.imp id fun ⟨g,cap,cur,e,hB,r⟩=>⟨g,cap,cur,e,Nat.le_trans hb hB,r⟩⟩
theorem XS (g o:Nat) (n:Nd) (vc ve:Value):KeepP fun w1=>NdIn w1 g o n vc ve:=fun _ _ h hb=>h.below hb
set_option maxHeartbeats 25600000 in
theorem PR {L:List Dr} {G:List Nd} {vt vg:Value} {w:World} (ht:DirsAt w vt L) (hz:L.length≤9223372036854775807) (hk:qB L) (hg:NodesAt w vg G) (hgz:CJ G) (he:Env w) (hf:FL w):
 Calls Tryz.prog 63 #[.agg #[vt],.agg #[vg]] w fun e w'=>qF w L G e w':=by
 have HCK:Hid (∀ w1,Below w.heap.size w w1→Calls Tryz.prog 115 #[.agg #[vt]] w1 fun e w'=>e= .returned (.int .i64 (Ba (cH L)))∧Below w1.heap.size w1 w'):=fun w1 hb=>LQ (ht.below hb) hz hk (he.below hb) (hf.below hb)
 have HLE:Hid (∀ w1,Below w.heap.size w w1→Calls Tryz.prog 116 #[.agg #[vg]] w1 fun e w'=>e= .returned (.bool (eM G))∧Below w1.heap.size w1 w'):=fun w1 hb=>GM (hg.below hb) hgz
 have HLK:Hid (∀ w1,Below w.heap.size w w1→∀ (r:Nat) s,Calls Tryz.prog 17 #[.agg #[vt],.int .i64 r,.string s] w1 fun e w'=>e= .returned (.int .i64 (cR L r s))∧Below w1.heap.size w1 w'):=fun w1 hb r s=>WO (ht.below hb) hz hk.1 r s
 have HDT:Hid (∀ w1,Below w.heap.size w w1→DirsAt w1 vt L):=fun w1 hb=>ht.below hb
 have HDG:Hid (∀ w1,Below w.heap.size w w1→NodesAt w1 vg G):=fun w1 hb=>hg.below hb
 obtain ⟨ta,tc,rfl,htc,htx⟩:=ht.sl;obtain ⟨ga,gc,rfl,hgc,hgx⟩:=hg;have HKB:Hid (KeepP fun w1=>Below w.heap.size w w1∧BxT w1 w.heap.size (.slice ta L.length tc)∧BxT w1 (w.heap.size+1) (.slice ga G.length gc)):=(aG w).and ((cL _ _).and (cL _ _));have HBX:Hid (Below w.heap.size w ((w.alloc (.cells #[.slice ta L.length tc] 30)).alloc (.cells #[.slice ga G.length gc] 27))∧BxT ((w.alloc (.cells #[.slice ta L.length tc] 30)).alloc (.cells #[.slice ga G.length gc] 27)) w.heap.size (.slice ta L.length tc)∧BxT ((w.alloc (.cells #[.slice ta L.length tc] 30)).alloc (.cells #[.slice ga G.length gc] 27)) (w.heap.size+1) (.slice ga G.length gc)):=⟨aS _ _ _,cL _ _ _ _ (BxT.new _ _) (aC _ _),by have h:=BxG.new (w.alloc (.cells #[.slice ta L.length tc] 30)) (.slice ga G.length gc);rw [show (w.alloc (.cells #[.slice ta L.length tc] 30)).heap.size=w.heap.size+1 by simp] at h;exact h⟩;have hgz1:=hgz.1
 have HGZ:=aB hgz.2;clear ht he hf hk hgz htx hgx;cases hcb:cH L
 · rw [hcb] at HCK
   have HQ:Hid (∀ w',Below w.heap.size w w'→qF w L G (.returned (.tuple #[.slice none 0 0,.int .i64 42])) w'):=fun w' hb=>Eo hcb hb
   go_enter Tryz.func63,Tryz.ntmps63
   go_wp2_with (go_at_call 115;refine (HCK.out _ (aS _ _ _)).mono ?_;rintro e w3 ⟨rfl,ok⟩;have HB3:=aB (HKB.out _ _ HBX.out ok);clear ok)
   go_ret2;exact HQ.out _ HB3.out.1
 · rw [hcb] at HCK
   cases hlb:eM G
   · rw [hlb] at HLE
     have HQ:Hid (∀ w',Below w.heap.size w w'→qF w L G (.returned (.tuple #[.slice none 0 0,.int .i64 33])) w'):=fun w' hb=>Ep hcb hlb hb
     go_enter Tryz.func63,Tryz.ntmps63
     go_wp2_with (first
      |(go_at_call 115;refine (HCK.out _ (aS _ _ _)).mono ?_;rintro e w3 ⟨rfl,ok⟩;have HB3:=aB (HKB.out _ _ HBX.out ok);obtain ⟨_,⟨x0,x1⟩,⟨y0,y1⟩⟩:=HB3.out;clear ok)
      |(go_at_call 116;refine (HLE.out _ HB3.out.1).mono ?_;rintro e w4 ⟨rfl,ok⟩;have HB4:=aB (HKB.out _ _ HB3.out ok);clear ok))
     go_ret2;exact HQ.out _ HB4.out.1
   · rw [hlb] at HLE
     have hcc:=(cZ.1 hcb).1;have hl1:1≤L.length:=hcc.1;have hl2:L.length≤257:=hcc.2;have HTO:=aB (qG hlb);have HQN:Hid (iN L G=none→∀ w',Below w.heap.size w w'→qF w L G (.returned (.tuple #[.slice none 0 0,.int .i64 42])) w'):=fun h w' hb=>Er hcb hlb h hb
     have HQY:Hid (∀ m v w',iN L G=some m→OwnI w' w.heap.size v m→Below w.heap.size w w'→qF w L G (.returned (.tuple #[v,.int .i64 0])) w'):=fun m v w' h ho hb=>Es hcb hlb h ho hb
     have HRP:Hid (∀ w4,w.heap.size+2≤w4.heap.size→Calls Tryz.prog 117 #[.slice (some ⟨w4.heap.size,0,none⟩) 1 1,.int .i64 L.length] (w4.alloc (.cells #[.int .i64 (-1)] 3)) fun e w'=>∃ g,e= .returned (.slice (some ⟨g,0,none⟩) L.length L.length)∧w.heap.size+2≤g∧w'.heap[g]? =some (.cells (List.replicate L.length (Value.int .i64 (-1))).toArray 3 (0,0))∧Below w4.heap.size w4 w'):=fun w4 hs=>by
      refine (MG (g0:=w4.heap.size) (n:=L.length) (w:=w4.alloc (.cells #[.int .i64 (-1)] 3)) (by simp) hl1 (by omega)).mono ?_;rintro e w' ⟨rfl,h1,h2⟩;exact ⟨_,rfl,by simp;omega,h1,aA (aC _ _) h2⟩
     clear hcc hcb hlb
     go_enter Tryz.func63,Tryz.ntmps63
     go_wp2_with (first
      |(go_at_call 115;refine (HCK.out _ (aS _ _ _)).mono ?_;rintro e w3 ⟨rfl,ok⟩;have HB3:=aB (HKB.out _ _ HBX.out ok);obtain ⟨_,⟨x0,x1⟩,⟨y0,y1⟩⟩:=HB3.out;clear ok)
      |(go_at_call 116;refine (HLE.out _ HB3.out.1).mono ?_;rintro e w4 ⟨rfl,ok⟩;have HB4:=aB (HKB.out _ _ HB3.out ok);have z0:(w4.alloc (.cells #[.int .i64 (-1)] 3)).cell? ⟨w.heap.size,0,none⟩=some (.slice ta L.length tc):=((aC w4 (.cells #[.int .i64 (-1)] 3)).cell (p:=⟨w.heap.size,0,none⟩) HB4.out.2.1.2).trans HB4.out.2.1.1;clear ok)
      |(go_at_call 117;refine (HRP.out w4 HB4.out.2.2.2).mono ?_;rintro e w5 ⟨g,rfl,hg5,hr5,hb5⟩;have HB5:=aB (HKB.out _ _ HB4.out hb5);have HR5:=aB hr5;have n0:w5.cell? ⟨g,0,none⟩=some (.int .i64 (-1)):=(by rw [Lib.cell_of_heap hr5];show (List.replicate L.length (Value.int .i64 (-1))).toArray[0]? =_;rw [List.getElem?_toArray,List.getElem?_replicate,if_pos (show 0<L.length from hl1)]);have f0:w5.frozen? ⟨g,0,none⟩=false:=Lib.frozen_of_heap hr5 0;clear hb5 hr5))
     have HST:Hid (StM w (.slice ta L.length tc) (.slice ga G.length gc) g w5.heap.size 1 (dU L.length) ((w5.setCell ⟨g,0,none⟩ (.int .i64 0)).alloc (.cells #[.int .i64 0] 3))):=by
      have hlen:(List.replicate L.length (-1:Int)).length=L.length:=List.length_replicate;have h1:w5.ownsRow (w.heap.size+2) 3 1 (.slice (some ⟨g,0,none⟩) L.length L.length) L.length (lP (List.replicate L.length (-1))):=⟨by rw [GN,hlen,Nat.mul_one],Or.inr ⟨g,L.length,_,rfl,hg5,HR5.out,Nat.le_refl _,by unfold maxLen;omega,by simp,by simp [lP]⟩⟩;obtain ⟨h2,h3⟩:=World.ownsRow.stored h1 0 (.int .i64 0);have hs5:(w5.setCell ⟨g,0,none⟩ (.int .i64 0)).heap.size=w5.heap.size:=by simp
      have hB5:w.heap.size+2≤w5.heap.size:=HB5.out.2.2.2;have hg6:g<w5.heap.size:=(World.ownsRow.lt h1 g rfl).2;have hbb:=aC (w5.setCell ⟨g,0,none⟩ (.int .i64 0)) (.cells #[.int .i64 0] 3);refine ⟨⟨aA (HB5.out.1.grown h3 HB5.out.1.size (fun k hk=>by cases hk;omega)) hbb,cL _ _ _ _ ⟨h3.cell HB5.out.2.1.1 (by simp;omega),by rw [hs5];exact HB5.out.2.1.2⟩ hbb,cL _ _ _ _ ⟨h3.cell HB5.out.2.2.1 (by simp;omega),by rw [hs5];exact HB5.out.2.2.2⟩ hbb⟩,⟨?_,?_⟩,by omega⟩
      · have h4:=dN h2 hbb
        rw [←GO] at h4;have e:(dU L.length).m.length=L.length:=by simp [dU]
        rw [e];exact h4
      · refine ⟨rfl,Or.inr ⟨w5.heap.size,1,#[.int .i64 0],rfl,hB5,?_,Nat.le_refl _,by unfold maxLen;omega,rfl,rfl⟩⟩
        rw [←hs5];exact heap_alloc_new _ _
     clear n0 f0 z0 x0 x1 y0 y1;have HMI:Hid (MInv L G (dU L.length)):=MInv.start hl1 HTO.out.1
     go_loopw [8,9] (fun vq vi wr=>Gl w (.slice ta L.length tc) (.slice ga G.length gc) g L G vq vi wr) (fun _ vi _=>L.length+1 - (intOf vi).toNat)
     case atStart=>exact ⟨dU L.length,0,w5.heap.size,1,HMI.out,Nat.zero_le _,rfl,rfl,HST.out,rfl⟩
     case round=>
      obtain ⟨st,i,q,c,hinv,hi,rfl,rfl,hst,hrun⟩:=hrel;have HIN:=aB hinv;have HSTM:=aB hst;have HRUN:=aB hrun;obtain ⟨wa,rfl⟩:∃ x,x=wr:=⟨wr,rfl⟩;have hqL:=hinv.short
      by_cases hlt:i<st.q.length
      · obtain ⟨r,hr⟩:∃ r,r=st.q[i]:=⟨_,rfl⟩
        obtain ⟨hrm,hr0⟩:=hinv.qin r (by rw [hr];exact List.getElem_mem hlt);have hrL:r<L.length:=by rw [←hinv.len];exact hrm
        obtain ⟨y,hy⟩:∃ y:Nat,st.m[r]=y:=⟨st.m[r].toNat,by omega⟩
        have hyG:y<G.length:=by
         rcases hinv.each r hrm with h|h
         · omega
         · rw [hy] at h;omega
        have HSQ:Hid (st.q[i]? =some r):=by unfold Hid;rw [List.getElem?_eq_getElem hlt,hr]
        have HED0:Hid (iN L G=(eN L G r G[y].ed st).bind (kS L G (L.length - i) (i+1))):=by
         unfold Hid;rw [HRUN.out,show L.length+1 - i=(L.length - i)+1 by omega,XR HSQ.out]
         have e:iH G st r=G[y].ed:=by
          unfold iH;rw [bN hrm,hy,Int.toNat_natCast,bN hyG]
         rw [e]
        obtain ⟨ga',gc',eq,_,hnd⟩:=HDG.out w (Below.refl _ _);cases eq
        obtain ⟨gg,go,rfl,_,hnz⟩:∃ g o,ga=some ⟨g,o,none⟩∧g<w.heap.size∧∀ i (h:i<G.length),∃ vc ve,NdIn w g (o+i*6) G[i] vc ve:=by
         rcases hnd with h|h
         · rw [h] at hyG;simp at hyG
         · exact h
        obtain ⟨vc,ve,hni⟩:=hnz y hyG;have HEA:Hid (∀ w1,Below w.heap.size w w1→EdgesAt w1 ve G[y].ed):=fun w1 hb=>hni.2.1.2.below hb
        have HNZ:Hid (∀ w1,Below w.heap.size w w1→∀ i (h:i<G.length),∃ vc ve,NdIn w1 gg (go+i*6) G[i] vc ve):=fun w1 hb i hi=>by obtain ⟨vc,ve,h⟩:=hnz i hi;exact ⟨vc,ve,h.below hb⟩
        have HTY:Hid (∀ e ∈ G[y].ed,0<e.to∧e.to<(G.length:Int)):=HTO.out.2 _ (List.getElem_mem hyG);have hez:=HGZ.out _ (List.getElem_mem hyG);have i1:=hst.seen hlt;rw [←hr] at i1;have i2:=hst.node hrm;rw [hy] at i2;obtain ⟨ea,ec,rfl⟩:=hni.2.1.2.sl;obtain ⟨pa,pc,rfl⟩:=hni.2.1.1.sl;generalize G[y]=nd at*;have HK:Hid (KeepP fun w1=>StM w (.slice ta L.length tc) (.slice (some ⟨gg,go,none⟩) G.length gc) g q c st w1∧(InI w1 q i (r:Int)∧InI w1 g r (y:Int))∧NdIn w1 gg (go+y*6) nd (.slice pa nd.cx.length pc) (.slice ea nd.ed.length ec)):=(qE _ _ _ _ _ _ _).and (((lR _ _ _).and (lR _ _ _)).and (XS _ _ _ _ _));have HO:Hid (StM w (.slice ta L.length tc) (.slice (some ⟨gg,go,none⟩) G.length gc) g q c st wa∧(InI wa q i (r:Int)∧InI wa g r (y:Int))∧NdIn wa gg (go+y*6) nd (.slice pa nd.cx.length pc) (.slice ea nd.ed.length ec)):=⟨hst,⟨i1,i2⟩,hni.below hst.1.1⟩
        clear hst hrun hinv hnd hnz hni i1 i2 hr hy hr0 hrm
        go_wp2_with fail
        refine cE HK (by kernel_rfl) (by kernel_rfl) (by first|exact HO.out|exact HK.out.drew HO.out) ?_;intro C HIN HOUT;clear HO
        repeat
         (with_reducible refine wpQuiet_step (fun K hK=> ?_)
          go_simp
          first
           |(refine hK _ ?_;clear hK K)
           |(apply Exists.intro;refine ⟨fun w1 hC=> ?_,hK _ ?_⟩;(focus ((first|(exact rfl)|(obtain ⟨⟨⟨hb1,⟨t0,t1⟩,⟨u0,u1⟩⟩,_,_⟩,⟨⟨p0,p1⟩,⟨p2,p3⟩⟩,⟨⟨d0,d1,d2,d3,d4,d5⟩,_,dg⟩⟩:=HOUT.out w1 hC;clear hC;go_simp;first|done|exact rfl));done));clear hK K))
        refine wpQuiet_nil ?_;intro wn hC;have HO:=aB (HOUT.out _ hC);clear hC HIN HOUT C;obtain ⟨⟨⟨hb1,⟨t0,t1⟩,⟨u0,u1⟩⟩,_,_⟩,⟨⟨p0,p1⟩,⟨p2,p3⟩⟩,⟨⟨d0,d1,d2,d3,d4,d5⟩,_,dg⟩⟩:=HO.out
        go_wp2_with fail
        have HS0:Hid (StM w (.slice ta L.length tc) (.slice (some ⟨gg,go,none⟩) G.length gc) g q c st wn):=HO.out.1;clear HO HK hb1 t0 t1 u0 u1 p0 p1 p2 p3 d0 d1 d2 d3 d4 d5 dg
        go_loopw [8,48] (fun vq vj wx=>Gm w (.slice ta L.length tc) (.slice (some ⟨gg,go,none⟩) G.length gc) g L G i r nd.ed vq vj wx) (fun _ vj _=>nd.ed.length - (intOf vj).toNat)
        case atStart=>exact ⟨st,0,q,c,HIN.out,Nat.zero_le _,HSQ.out,rfl,rfl,HS0.out,HED0.out⟩
        case round=>
         clear HS0 HSQ HED0 HIN HSTM HRUN;obtain ⟨st,j,q,c,hinv,hj,hsq,rfl,rfl,hst,hrun⟩:=hrel;have HIN:=aB hinv;have HSQ:=aB hsq;have HRUN:=aB hrun;have hqL:=hinv.short;have hiq:i<st.q.length:=(List.getElem?_eq_some_iff.1 hsq).1
         by_cases hlj:j<nd.ed.length
         · have hej:=HTY.out _ (List.getElem_mem hlj)
           obtain ⟨yt,hyt⟩:∃ yt:Nat,nd.ed[j].to=yt:=⟨nd.ed[j].to.toNat,by omega⟩;have hytG:yt<G.length:=by omega
           obtain ⟨ea',ec',eq2,_,hcs⟩:=HEA.out wr hst.1.1;cases eq2
           obtain ⟨eg,eo,rfl,heg,hcz⟩:∃ g o,ea=some ⟨g,o,none⟩∧g<wr.heap.size∧∀ i (h:i<nd.ed.length),EgIn wr g (o+i*2) nd.ed[i]:=by
            rcases hcs with h|h
            · rw [h] at hlj;simp at hlj
            · exact h
           obtain ⟨⟨e0,e1⟩,_⟩:=hcz j hlj;obtain ⟨ta',tc',eq3,_,hdd⟩:=HDT.out w (Below.refl _ _);cases eq3
           obtain ⟨tg,tf,rfl,hds⟩:∃ g o,ta=some ⟨g,o,none⟩∧∀ i (h:i<L.length),∃ u v1 v2 v3,DrIn w g (o+i*9) L[i] u v1 v2 v3:=by
            rcases hdd with h|h
            · rw [h] at hl1;simp at hl1
            · exact h
           have HDS:=aB hds
           have HSTEP:Hid (iN L G=((gL L G r st nd.ed[j]).bind (eN L G r (nd.ed.drop (j+1)))).bind (kS L G (L.length - i) (i+1))):=by
            unfold Hid;rw [HRUN.out,List.drop_eq_getElem_cons hlj];rfl
           have i1:=hst.seen hiq;have hqi:st.q[i]=r:=(List.getElem?_eq_some_iff.1 hsq).2;rw [hqi] at i1;clear hcs hdd hcz hds hqi hrun hinv hsq HRUN;generalize nd.ed[j]=e at*;have HL:=aB (fun w1 hb=>HLK.out w1 hb r e.lb);have HN1:Hid (cR L (r:Int) e.lb<0→iN L G=none):=fun h=>by rw [HSTEP.out,MH h];rfl
           have HN2:Hid (∀ k,cR L (r:Int) e.lb=(k:Nat)→∀ hk:k<L.length,gH L[k] G[yt]=false→iN L G=none):=fun k h hk h2=>by rw [HSTEP.out,MI h hk hyt hytG h2];rfl
           have HN3:Hid (∀ k,cR L (r:Int) e.lb=(k:Nat)→∀ hk:k<L.length,gH L[k] G[yt]=true→∀ hm:k<st.m.length,st.m[k]<0→iN L G=(eN L G r (nd.ed.drop (j+1)) ⟨st.m.set k e.to,st.q++[k]⟩).bind (kS L G (L.length - i) (i+1))):=fun k h hk h2 hm hx=>by rw [HSTEP.out,XQ h hk hyt hytG h2 hm hx];rfl
           have HN4:Hid (∀ k,cR L (r:Int) e.lb=(k:Nat)→∀ hk:k<L.length,gH L[k] G[yt]=true→∀ hm:k<st.m.length,¬ st.m[k]<0→¬ st.m[k]=e.to→iN L G=none):=fun k h hk h2 hm hx hy=>by rw [HSTEP.out,GP h hk hyt hytG h2 hm hx,if_neg hy];rfl
           have HN5:Hid (∀ k,cR L (r:Int) e.lb=(k:Nat)→∀ hk:k<L.length,gH L[k] G[yt]=true→∀ hm:k<st.m.length,¬ st.m[k]<0→st.m[k]=e.to→iN L G=(eN L G r (nd.ed.drop (j+1)) st).bind (kS L G (L.length - i) (i+1))):=fun k h hk h2 hm hx hy=>by rw [HSTEP.out,GP h hk hyt hytG h2 hm hx,if_pos hy];rfl
           have hlv:=vE L (r:Int) e.lb;generalize cR L (r:Int) e.lb=av at*;have HGQ:Hid (g<wr.heap.size∧q<wr.heap.size):=⟨(World.ownsRow.lt hst.2.1.1 g rfl).2,(World.ownsRow.lt hst.2.1.2 q rfl).2⟩;have HK:Hid (KeepP fun w1=>StM w (.slice (some ⟨tg,tf,none⟩) L.length tc) (.slice (some ⟨gg,go,none⟩) G.length gc) g q c st w1∧InI w1 q i (r:Int)∧BxE w1 wr.heap.size e):=(qE _ _ _ _ _ _ _).and ((lR _ _ _).and (CM _ _))
           have HO:Hid (StM w (.slice (some ⟨tg,tf,none⟩) L.length tc) (.slice (some ⟨gg,go,none⟩) G.length gc) g q c st (wr.alloc (.cells #[.string e.lb,.int .i64 (yt:Int)] 62))∧InI (wr.alloc (.cells #[.string e.lb,.int .i64 (yt:Int)] 62)) q i (r:Int)∧BxE (wr.alloc (.cells #[.string e.lb,.int .i64 (yt:Int)] 62)) wr.heap.size e):=by
            unfold Hid;rw [←hyt];exact ⟨qE _ _ _ _ _ _ _ _ _ hst (aC _ _),lR _ _ _ _ _ i1 (aC _ _),BxE.new _ _⟩
           clear hst i1 HSTEP
           rcases (show av= -1∨∃ k:Nat,av=k∧k<L.length by
            rcases (show av= -1∨0≤av by omega) with h|h
            · exact Or.inl h
            · exact Or.inr ⟨av.toNat,by omega,by omega⟩) with rfl|⟨k,rfl,hkL⟩
           · have HR:=aB (HN1.out (by decide))
             go_wp2_with fail
             refine cE HK (by kernel_rfl) (by kernel_rfl) (by first|exact HO.out|exact HK.out.drew HO.out) ?_;intro C HIN HOUT;clear HO
             repeat
              (with_reducible refine wpQuiet_step (fun K hK=> ?_)
               go_simp
               first
                |(refine hK _ ?_;clear hK K)
                |(apply Exists.intro;refine ⟨fun w1 hC=> ?_,hK _ ?_⟩;(focus ((first|(go_at_call 17;with_reducible exact bJ HIN HOUT HK (fun w1 hk=>HL.out w1 (StM.bel hk.1)) w1 hC)|(exact rfl)|(obtain ⟨⟨⟨hb1,⟨t0,t1⟩,⟨u0,u1⟩⟩,_,_⟩,⟨p0,p1⟩,⟨⟨b0,b1⟩,b2⟩⟩:=HOUT.out w1 hC;clear hC;go_simp;first|done|exact rfl));done));clear hK K))
             refine wpQuiet_nil ?_;intro w15 hC;have HO:=aB (HOUT.out _ hC);clear hC HIN HOUT C;obtain ⟨⟨⟨hb1,⟨t0,t1⟩,⟨u0,u1⟩⟩,_,_⟩,⟨p0,p1⟩,⟨⟨b0,b1⟩,b2⟩⟩:=HO.out
             go_wp2_with fail
             clear hb1 t0 t1 u0 u1 p0 p1 b0 b1 b2;refine cE HK (by kernel_rfl) (by kernel_rfl) (by first|exact HO.out|exact HK.out.drew HO.out) ?_;intro C HIN HOUT;clear HO
             repeat
              (with_reducible refine wpQuiet_step (fun K hK=> ?_)
               go_simp
               first
                |(refine hK _ ?_;clear hK K)
                |(apply Exists.intro;refine ⟨fun w1 hC=> ?_,hK _ ?_⟩;(focus ((first|(exact rfl)|(obtain ⟨⟨⟨hb1,⟨t0,t1⟩,⟨u0,u1⟩⟩,_,_⟩,⟨p0,p1⟩,⟨⟨b0,b1⟩,b2⟩⟩:=HOUT.out w1 hC;clear hC;go_simp;first|done|exact rfl));done));clear hK K))
             refine wpQuiet_nil ?_;intro w16 hC;have HO:=aB (HOUT.out _ hC);clear hC HIN HOUT C;obtain ⟨⟨⟨hb1,⟨t0,t1⟩,⟨u0,u1⟩⟩,_,_⟩,⟨p0,p1⟩,⟨⟨b0,b1⟩,b2⟩⟩:=HO.out
             go_wp2
             go_ret2;exact HQN.out HR.out _ HO.out.1.1.1
           · go_wp2_with fail
             refine cE HK (by kernel_rfl) (by kernel_rfl) (by first|exact HO.out|exact HK.out.drew HO.out) ?_;intro C HIN HOUT;clear HO
             repeat
              (with_reducible refine wpQuiet_step (fun K hK=> ?_)
               go_simp
               first
                |(refine hK _ ?_;clear hK K)
                |(apply Exists.intro;refine ⟨fun w1 hC=> ?_,hK _ ?_⟩;(focus ((first|(go_at_call 17;with_reducible exact bJ HIN HOUT HK (fun w1 hk=>HL.out w1 (StM.bel hk.1)) w1 hC)|(exact rfl)|(obtain ⟨⟨⟨hb1,⟨t0,t1⟩,⟨u0,u1⟩⟩,_,_⟩,⟨p0,p1⟩,⟨⟨b0,b1⟩,b2⟩⟩:=HOUT.out w1 hC;clear hC;go_simp;first|done|exact rfl));done));clear hK K))
             refine wpQuiet_nil ?_;intro w15 hC;have HO:=aB (HOUT.out _ hC);clear hC HIN HOUT C;obtain ⟨⟨⟨hb1,⟨t0,t1⟩,⟨u0,u1⟩⟩,_,_⟩,⟨p0,p1⟩,⟨⟨b0,b1⟩,b2⟩⟩:=HO.out
             go_wp2_with fail
             clear t0 t1 u0 u1 p0 p1 b0 b1 b2;have hmk:k<st.m.length:=by rw [HIN.out.len];exact hkL
             have HMK:=aB (HIN.out.each k hmk);obtain ⟨u,v1,v2,v3,hdk⟩:=HDS.out k hkL;obtain ⟨vc2,ve2,hn2⟩:=HNZ.out w (Below.refl _ _) yt hytG;obtain ⟨ua,uc,rfl⟩:=hdk.2.1.1.sl;obtain ⟨x1,z1,rfl⟩:=hdk.2.1.2.1.sl;obtain ⟨x2,z2,rfl⟩:=hdk.2.1.2.2.1.sl;obtain ⟨x3,z3,rfl⟩:=hdk.2.1.2.2.2.sl;obtain ⟨y1,k1,rfl⟩:=hn2.2.1.1.sl;obtain ⟨y2,k2,rfl⟩:=hn2.2.1.2.sl;have HIS:=aB (XO L[k] G[yt] ua x1 x2 x3 y1 y2 L[k].pa.length uc L[k].pk.d.length z1 L[k].pk.p.length z2 L[k].pk.o.length z3 G[yt].cx.length k1 G[yt].ed.length k2);have H2:=aB (HN2.out k rfl hkL);have H3:=aB (fun h=>HN3.out k rfl hkL h hmk);have H4:=aB (fun h=>HN4.out k rfl hkL h hmk);have H5:=aB (fun h=>HN5.out k rfl hkL h hmk);have HMS:Hid (∀ w1,StM w (.slice (some ⟨tg,tf,none⟩) L.length tc) (.slice (some ⟨gg,go,none⟩) G.length gc) g q c st w1→InI w1 g k st.m[k]):=fun w1 h=>h.node hmk
             have HIV:Hid (st.m[k]<0→MInv L G ⟨st.m.set k e.to,st.q++[k]⟩):=fun h=>HIN.out.set hmk h hej.1 hej.2
             have hkm:=hmk;generalize gH L[k] G[yt]=ib at*;generalize L[k]=dk at*;generalize G[yt]=n2 at*;generalize st.m[k]=xm at*;have HD2:Hid (DrIn w15 tg (tf+k*9) dk (.slice ua dk.pa.length uc) (.slice x1 dk.pk.d.length z1) (.slice x2 dk.pk.p.length z2) (.slice x3 dk.pk.o.length z3)∧NdIn w15 gg (go+yt*6) n2 (.slice y1 n2.cx.length k1) (.slice y2 n2.ed.length k2)):=⟨hdk.below HO.out.1.1.1,hn2.below HO.out.1.1.1⟩;have HS15:=aB HO.out.1;have HE15:=aB HO.out.2.2;clear HO HK hdk hn2 hb1 HN1 HN2 HN3 HN4 HN5 HL
             have HK:Hid (KeepP fun w1=>StM w (.slice (some ⟨tg,tf,none⟩) L.length tc) (.slice (some ⟨gg,go,none⟩) G.length gc) g q c st w1∧(InI w1 g k xm∧BxE w1 wr.heap.size e)∧DrIn w1 tg (tf+k*9) dk (.slice ua dk.pa.length uc) (.slice x1 dk.pk.d.length z1) (.slice x2 dk.pk.p.length z2) (.slice x3 dk.pk.o.length z3)∧NdIn w1 gg (go+yt*6) n2 (.slice y1 n2.cx.length k1) (.slice y2 n2.ed.length k2)):=(qE _ _ _ _ _ _ _).and (((lR _ _ _).and (CM _ _)).and ((rJ _ _ _ _ _ _ _).and (XS _ _ _ _ _)))
             have HO:Hid (StM w (.slice (some ⟨tg,tf,none⟩) L.length tc) (.slice (some ⟨gg,go,none⟩) G.length gc) g q c st w15∧(InI w15 g k xm∧BxE w15 wr.heap.size e)∧DrIn w15 tg (tf+k*9) dk (.slice ua dk.pa.length uc) (.slice x1 dk.pk.d.length z1) (.slice x2 dk.pk.p.length z2) (.slice x3 dk.pk.o.length z3)∧NdIn w15 gg (go+yt*6) n2 (.slice y1 n2.cx.length k1) (.slice y2 n2.ed.length k2)):=⟨HS15.out,⟨HMS.out _ HS15.out,HE15.out⟩,HD2.out⟩;obtain ⟨⟨⟨hb1,⟨t0,t1⟩,⟨u0,u1⟩⟩,_,_⟩,⟨⟨n0,n1⟩,⟨⟨b0,b1⟩,b2⟩⟩,⟨⟨d0,d1,d2,d3,d4,d5,d6,d7,d8⟩,_,dg⟩,⟨⟨m0,m1,m2,m3,m4,m5⟩,_,mg⟩⟩:=HO.out;clear hb1 t0 t1 u0 u1 n0 n1 b0 b1 b2 d0 d1 d2 d3 d4 d5 d6 d7 d8 dg m0 m1 m2 m3 m4 m5 mg HD2 HS15 HE15;cases ib
             · have HR:=aB (H2.out rfl)
               refine cE HK (by kernel_rfl) (by kernel_rfl) (by first|exact HO.out|exact HK.out.drew HO.out) ?_;intro C HIN HOUT;clear HO
               repeat
                (with_reducible refine wpQuiet_step (fun K hK=> ?_)
                 go_simp
                 first
                  |(refine hK _ ?_;clear hK K)
                  |(apply Exists.intro;refine ⟨fun w1 hC=> ?_,hK _ ?_⟩;(focus ((first|(go_at_call 118;with_reducible exact eJ HIN HOUT HK HIS.out w1 hC)|(exact rfl)|(obtain ⟨⟨⟨hb1,⟨t0,t1⟩,⟨u0,u1⟩⟩,_,_⟩,⟨⟨n0,n1⟩,⟨⟨b0,b1⟩,b2⟩⟩,⟨⟨d0,d1,d2,d3,d4,d5,d6,d7,d8⟩,_,dg⟩,⟨⟨m0,m1,m2,m3,m4,m5⟩,_,mg⟩⟩:=HOUT.out w1 hC;clear hC;go_simp;first|done|exact rfl));done));clear hK K))
               refine wpQuiet_nil ?_;intro w16 hC;have HO:=aB (HOUT.out _ hC);clear hC HIN HOUT C;obtain ⟨⟨⟨hb1,⟨t0,t1⟩,⟨u0,u1⟩⟩,_,_⟩,⟨⟨n0,n1⟩,⟨⟨b0,b1⟩,b2⟩⟩,⟨⟨d0,d1,d2,d3,d4,d5,d6,d7,d8⟩,_,dg⟩,⟨⟨m0,m1,m2,m3,m4,m5⟩,_,mg⟩⟩:=HO.out
               go_wp2
               go_ret2;exact HQN.out HR.out _ HO.out.1.1.1
             · by_cases hx:xm<0
               · have HR:=aB (H3.out rfl hx)
                 have HIV2:=aB (HIV.out hx);refine cE HK (by kernel_rfl) (by kernel_rfl) (by first|exact HO.out|exact HK.out.drew HO.out) ?_;intro C HIN HOUT;clear HO
                 repeat
                  (with_reducible refine wpQuiet_step (fun K hK=> ?_)
                   go_simp
                   first
                    |(refine hK _ ?_;clear hK K)
                    |(apply Exists.intro;refine ⟨fun w1 hC=> ?_,hK _ ?_⟩;(focus ((first|(go_at_call 118;with_reducible exact eJ HIN HOUT HK HIS.out w1 hC)|(exact rfl)|(obtain ⟨⟨⟨hb1,⟨t0,t1⟩,⟨u0,u1⟩⟩,_,_⟩,⟨⟨n0,n1⟩,⟨⟨b0,b1⟩,b2⟩⟩,⟨⟨d0,d1,d2,d3,d4,d5,d6,d7,d8⟩,_,dg⟩,⟨⟨m0,m1,m2,m3,m4,m5⟩,_,mg⟩⟩:=HOUT.out w1 hC;clear hC;go_simp;first|done|exact rfl));done));clear hK K))
                 refine wpQuiet_nil ?_;intro w16 hC;have HO:=aB (HOUT.out _ hC);clear hC HIN HOUT C;obtain ⟨⟨⟨hb1,⟨t0,t1⟩,⟨u0,u1⟩⟩,_,_⟩,⟨⟨n0,n1⟩,⟨⟨b0,b1⟩,b2⟩⟩,⟨⟨d0,d1,d2,d3,d4,d5,d6,d7,d8⟩,_,dg⟩,⟨⟨m0,m1,m2,m3,m4,m5⟩,_,mg⟩⟩:=HO.out;have HS16:=aB HO.out.1;have HS17:Hid (StM w (.slice (some ⟨tg,tf,none⟩) L.length tc) (.slice (some ⟨gg,go,none⟩) G.length gc) g q c ⟨st.m.set k (yt:Int),st.q⟩ (w16.setCell ⟨g,k,none⟩ (.int .i64 (yt:Int)))):=StM.put HO.out.1 k (yt:Int);have HOW17:Hid ((w16.setCell ⟨g,k,none⟩ (.int .i64 (yt:Int))).ownsRow (w.heap.size+2) 3 1 (.slice (some ⟨q,0,none⟩) st.q.length c) st.q.length (CK st.q)):=HS17.out.2.1.2;have fz:w16.frozen? ⟨g,k,none⟩=false:=World.ownsRow.frozenAt HO.out.1.2.1.1 k;have hB17:w.heap.size+2≤(w16.setCell ⟨g,k,none⟩ (.int .i64 (yt:Int))).heap.size:=HS17.out.1.2.2.2;have HE16:Hid (BxE w16 wr.heap.size e):=HO.out.2.1.2
                 have HE17:Hid (BxE (w16.setCell ⟨g,k,none⟩ (.int .i64 (yt:Int))) wr.heap.size e):=by
                  have h3:=(World.ownsRow.stored HO.out.1.2.1.1 k (.int .i64 (yt:Int))).2
                  have:=HGQ.out.1
                  exact ⟨⟨h3.cell HE16.out.1.1 (by simp;omega),h3.cell HE16.out.1.2 (by simp;omega)⟩,Nat.lt_of_lt_of_le HE16.out.2 h3.size⟩
                 clear HO HK
                 go_wp2_with (at_builtin;refine Bj (B:=w.heap.size+2) (wx:=w16.setCell ⟨g,k,none⟩ (.int .i64 (yt:Int))) (x:=(k:Int)) (v:= .slice (some ⟨q,0,none⟩) st.q.length c) (n:=st.q.length) rfl (.tmp 87) (.tmp 89) rfl rfl HOW17.out hB17 (by simp) rfl (by omega) ?_;intro v20 w20 ho hgr hat;obtain ⟨q2,c2,rfl,hs20⟩:=StM.app HS17.out k ho (pV (aC _ _) hgr) hat;have HS20:=aB hs20;have HE20:Hid (BxE w20 wr.heap.size e):=(by have hgo:=pV (aC _ _) hgr;have:=HGQ.out.2;exact ⟨⟨hgo.cell HE17.out.1.1 (by simp [Value.ownBlock];omega),hgo.cell HE17.out.1.2 (by simp [Value.ownBlock];omega)⟩,Nat.lt_of_lt_of_le HE17.out.2 hgo.size⟩);clear ho hgr hat hs20)
                 clear hb1 t0 t1 u0 u1 n0 n1 b0 b1 b2 d0 d1 d2 d3 d4 d5 d6 d7 d8 dg m0 m1 m2 m3 m4 m5 mg fz;have HSQ2:Hid ((st.q++[k])[i]? =some r):=by unfold Hid;rw [List.getElem?_append_left hiq];exact HSQ.out
                 have HIK:Hid (InI w20 g k (yt:Int)):=by
                  have h:=HS20.out.node (k:=k) (by simpa using hkm);have e2:(MS.mk (st.m.set k (yt:Int)) (st.q++[k])).m[k]'(by simpa using hkm)=(yt:Int):=List.getElem_set_self _;rw [e2] at h;exact h
                 have HK:Hid (KeepP fun w1=>StM w (.slice (some ⟨tg,tf,none⟩) L.length tc) (.slice (some ⟨gg,go,none⟩) G.length gc) g q2 c2 ⟨st.m.set k (yt:Int),st.q++[k]⟩ w1∧InI w1 g k (yt:Int)∧BxE w1 wr.heap.size e):=(qE _ _ _ _ _ _ _).and ((lR _ _ _).and (CM _ _));have HO:Hid (StM w (.slice (some ⟨tg,tf,none⟩) L.length tc) (.slice (some ⟨gg,go,none⟩) G.length gc) g q2 c2 ⟨st.m.set k (yt:Int),st.q++[k]⟩ w20∧InI w20 g k (yt:Int)∧BxE w20 wr.heap.size e):=⟨HS20.out,HIK.out,HE20.out⟩;refine cE HK (by kernel_rfl) (by kernel_rfl) (by first|exact HO.out|exact HK.out.drew HO.out) ?_;intro C HIN HOUT;clear HO
                 repeat
                  (with_reducible refine wpQuiet_step (fun K hK=> ?_)
                   go_simp
                   first
                    |(refine hK _ ?_;clear hK K)
                    |(apply Exists.intro;refine ⟨fun w1 hC=> ?_,hK _ ?_⟩;(focus ((first|(exact rfl)|(obtain ⟨⟨⟨hb1,⟨t0,t1⟩,⟨u0,u1⟩⟩,_,_⟩,⟨n0,n1⟩,⟨⟨b0,b1⟩,b2⟩⟩:=HOUT.out w1 hC;clear hC;go_simp;first|done|exact rfl));done));clear hK K))
                 refine wpQuiet_nil ?_;intro w21 hC;have HO:=aB (HOUT.out _ hC);clear hC HIN HOUT C;obtain ⟨⟨⟨hb1,⟨t0,t1⟩,⟨u0,u1⟩⟩,_,_⟩,⟨n0,n1⟩,⟨⟨b0,b1⟩,b2⟩⟩:=HO.out
                 go_wp2
                 rw [hyt] at HR HIV2;exact ⟨⟨⟨st.m.set k (yt:Int),st.q++[k]⟩,j+1,q2,c2,HIV2.out,by omega,HSQ2.out,by go_num,(by show _=Value.slice _ (st.q++[k]).length _;rw [List.length_append];rfl),HO.out.1,HR.out⟩,by simp [intOf];omega⟩
               · by_cases hxe:xm=e.to
                 · have HR:=aB (H5.out rfl (by omega) hxe)
                   subst hxe;refine cE HK (by kernel_rfl) (by kernel_rfl) (by first|exact HO.out|exact HK.out.drew HO.out) ?_;intro C HIN HOUT;clear HO
                   repeat
                    (with_reducible refine wpQuiet_step (fun K hK=> ?_)
                     go_simp
                     first
                      |(refine hK _ ?_;clear hK K)
                      |(apply Exists.intro;refine ⟨fun w1 hC=> ?_,hK _ ?_⟩;(focus ((first|(go_at_call 118;with_reducible exact eJ HIN HOUT HK HIS.out w1 hC)|(exact rfl)|(obtain ⟨⟨⟨hb1,⟨t0,t1⟩,⟨u0,u1⟩⟩,_,_⟩,⟨⟨n0,n1⟩,⟨⟨b0,b1⟩,b2⟩⟩,⟨⟨d0,d1,d2,d3,d4,d5,d6,d7,d8⟩,_,dg⟩,⟨⟨m0,m1,m2,m3,m4,m5⟩,_,mg⟩⟩:=HOUT.out w1 hC;clear hC;go_simp;first|done|exact rfl));done));clear hK K))
                   refine wpQuiet_nil ?_;intro w16 hC;have HO:=aB (HOUT.out _ hC);clear hC HIN HOUT C;obtain ⟨⟨⟨hb1,⟨t0,t1⟩,⟨u0,u1⟩⟩,_,_⟩,⟨⟨n0,n1⟩,⟨⟨b0,b1⟩,b2⟩⟩,⟨⟨d0,d1,d2,d3,d4,d5,d6,d7,d8⟩,_,dg⟩,⟨⟨m0,m1,m2,m3,m4,m5⟩,_,mg⟩⟩:=HO.out
                   go_wp2_with fail
                   clear hb1 t0 t1 u0 u1 n0 n1 b0 b1 b2 d0 d1 d2 d3 d4 d5 d6 d7 d8 dg m0 m1 m2 m3 m4 m5 mg;refine cE HK (by kernel_rfl) (by kernel_rfl) (by first|exact HO.out|exact HK.out.drew HO.out) ?_;intro C HIN HOUT;clear HO
                   repeat
                    (with_reducible refine wpQuiet_step (fun K hK=> ?_)
                     go_simp
                     first
                      |(refine hK _ ?_;clear hK K)
                      |(apply Exists.intro;refine ⟨fun w1 hC=> ?_,hK _ ?_⟩;(focus ((first|(exact rfl)|(obtain ⟨⟨⟨hb1,⟨t0,t1⟩,⟨u0,u1⟩⟩,_,_⟩,⟨⟨n0,n1⟩,⟨⟨b0,b1⟩,b2⟩⟩,⟨⟨d0,d1,d2,d3,d4,d5,d6,d7,d8⟩,_,dg⟩,⟨⟨m0,m1,m2,m3,m4,m5⟩,_,mg⟩⟩:=HOUT.out w1 hC;clear hC;go_simp;first|done|exact rfl));done));clear hK K))
                   refine wpQuiet_nil ?_;intro w21 hC;have HO:=aB (HOUT.out _ hC);clear hC HIN HOUT C;obtain ⟨⟨⟨hb1,⟨t0,t1⟩,⟨u0,u1⟩⟩,_,_⟩,⟨⟨n0,n1⟩,⟨⟨b0,b1⟩,b2⟩⟩,⟨⟨d0,d1,d2,d3,d4,d5,d6,d7,d8⟩,_,dg⟩,⟨⟨m0,m1,m2,m3,m4,m5⟩,_,mg⟩⟩:=HO.out
                   go_wp2
                   exact ⟨⟨st,j+1,q,c,HIN.out,by omega,HSQ.out,by go_num,rfl,HO.out.1,HR.out⟩,by simp [intOf];omega⟩
                 · have HR:=aB (H4.out rfl (by omega) hxe)
                   have hxb:(xm==e.to)=false:=by rw [beq_eq_false_iff_ne];exact hxe
                   refine cE HK (by kernel_rfl) (by kernel_rfl) (by first|exact HO.out|exact HK.out.drew HO.out) ?_;intro C HIN HOUT;clear HO
                   repeat
                    (with_reducible refine wpQuiet_step (fun K hK=> ?_)
                     go_simp
                     first
                      |(refine hK _ ?_;clear hK K)
                      |(apply Exists.intro;refine ⟨fun w1 hC=> ?_,hK _ ?_⟩;(focus ((first|(go_at_call 118;with_reducible exact eJ HIN HOUT HK HIS.out w1 hC)|(exact rfl)|(obtain ⟨⟨⟨hb1,⟨t0,t1⟩,⟨u0,u1⟩⟩,_,_⟩,⟨⟨n0,n1⟩,⟨⟨b0,b1⟩,b2⟩⟩,⟨⟨d0,d1,d2,d3,d4,d5,d6,d7,d8⟩,_,dg⟩,⟨⟨m0,m1,m2,m3,m4,m5⟩,_,mg⟩⟩:=HOUT.out w1 hC;clear hC;go_simp;first|done|exact rfl));done));clear hK K))
                   refine wpQuiet_nil ?_;intro w16 hC;have HO:=aB (HOUT.out _ hC);clear hC HIN HOUT C;obtain ⟨⟨⟨hb1,⟨t0,t1⟩,⟨u0,u1⟩⟩,_,_⟩,⟨⟨n0,n1⟩,⟨⟨b0,b1⟩,b2⟩⟩,⟨⟨d0,d1,d2,d3,d4,d5,d6,d7,d8⟩,_,dg⟩,⟨⟨m0,m1,m2,m3,m4,m5⟩,_,mg⟩⟩:=HO.out
                   go_wp2_with fail
                   clear hb1 t0 t1 u0 u1 n0 n1 b0 b1 b2 d0 d1 d2 d3 d4 d5 d6 d7 d8 dg m0 m1 m2 m3 m4 m5 mg;refine cE HK (by kernel_rfl) (by kernel_rfl) (by first|exact HO.out|exact HK.out.drew HO.out) ?_;intro C HIN HOUT;clear HO
                   repeat
                    (with_reducible refine wpQuiet_step (fun K hK=> ?_)
                     go_simp
                     first
                      |(refine hK _ ?_;clear hK K)
                      |(apply Exists.intro;refine ⟨fun w1 hC=> ?_,hK _ ?_⟩;(focus ((first|(exact rfl)|(obtain ⟨⟨⟨hb1,⟨t0,t1⟩,⟨u0,u1⟩⟩,_,_⟩,⟨⟨n0,n1⟩,⟨⟨b0,b1⟩,b2⟩⟩,⟨⟨d0,d1,d2,d3,d4,d5,d6,d7,d8⟩,_,dg⟩,⟨⟨m0,m1,m2,m3,m4,m5⟩,_,mg⟩⟩:=HOUT.out w1 hC;clear hC;go_simp;first|done|exact rfl));done));clear hK K))
                   refine wpQuiet_nil ?_;intro w21 hC;have HO:=aB (HOUT.out _ hC);clear hC HIN HOUT C;obtain ⟨⟨⟨hb1,⟨t0,t1⟩,⟨u0,u1⟩⟩,_,_⟩,⟨⟨n0,n1⟩,⟨⟨b0,b1⟩,b2⟩⟩,⟨⟨d0,d1,d2,d3,d4,d5,d6,d7,d8⟩,_,dg⟩,⟨⟨m0,m1,m2,m3,m4,m5⟩,_,mg⟩⟩:=HO.out
                   go_wp2
                   go_ret2;exact HQN.out HR.out _ HO.out.1.1.1
         · obtain rfl:j=nd.ed.length:=by omega
           have HR:Hid (iN L G=kS L G (L.length+1 - (i+1)) (i+1) st):=by
            unfold Hid;rw [HRUN.out,List.drop_length,show L.length+1 - (i+1)=L.length - i by omega];rfl
           have HS1:=aB hst;clear hst hrun hsq hinv
           go_wp2
           exact ⟨⟨st,i+1,q,c,HIN.out,hiq,by go_num,rfl,HS1.out,HR.out⟩,by simp [intOf];omega⟩
      · obtain rfl:i=st.q.length:=by omega
        have HR:Hid (iN L G=some st.m):=by
         unfold Hid;rw [HRUN.out,show L.length+1 - st.q.length=(L.length - st.q.length)+1 by omega];exact PQ (List.getElem?_eq_none (Nat.le_refl _))
        have HOI:Hid (OwnI wa w.heap.size (.slice (some ⟨g,0,none⟩) L.length L.length) st.m):=by
         have h:=hst.2.1.1;rw [hinv.len] at h;unfold Hid OwnI;rw [hinv.len];exact eB h (by omega)
        have HBE:=aB hst.1.1;clear hst hrun hinv
        go_wp2
        go_ret2;exact HQY.out _ _ _ HR.out HOI.out HBE.out
end Go.Proofs.YtmnhnofnlcbliaaGreatDoor
namespace Go.Proofs.YtmnhnofnlcbliaaGreatDoor
open Go.Shelf Go.RowKit Go.Lib Go.Sort
set_option maxRecDepth 100000
noncomputable def stB (p q:List ByteArray):Bool:=decide (0<p.length)&&eqB (p.take (p.length - 1)) q
theorem PT {p q:List ByteArray}:stB p q=true↔0<p.length∧p.take (p.length - 1)=q:=by
 unfold stB;rw [Bool.and_eq_true,decide_eq_true_iff,eW]
theorem Dl:∀ a b:List UInt8,Op.bytesLess a b=bytesBefore a b
 |[],[]=>rfl
 |[],_::_=>rfl
 |_::_,[]=>rfl
 |a::r,b::s=>by unfold Op.bytesLess bytesBefore;rw [Dl r s]
end Go.Proofs.YtmnhnofnlcbliaaGreatDoor
namespace Go.Proofs.YtmnhnofnlcbliaaGreatDoor
open Go.RowKit Go.Lib Go.Sort
set_option maxRecDepth 100000
structure TrOk (L:List Dr):Prop where
 len:0<L.length∧L.length≤257
 root:∀ h:0<L.length,L[0].pa=[]
 names:∀ i (hi:i<L.length),i≠0→L[i].pa≠[]∧aT L[i].pa=true∧(aZ L[i].pa).length≤1024∧aU L[i].pk=true
 uniq:∀ i j (hi:i<L.length) (hj:j<L.length),L[i].pa=L[j].pa→i=j
 above:∀ i (hi:i<L.length),i≠0→∃ p,∃ hp:p<L.length,p<i∧L[p].pa=L[i].pa.take (L[i].pa.length - 1)
theorem Bn {L:List Dr} (hc:cH L=true):TrOk L:=by
 obtain ⟨⟨h0,h257⟩,hr,hall⟩:=cZ.1 hc;rw [mP h0] at hr;unfold nZ at hr;rw [Bool.and_eq_true,Bool.and_eq_true,decide_eq_true_iff] at hr;have hroot:L[0].pa=[]:=List.eq_nil_of_length_eq_zero hr.1.1
 have hfol:∀ i (hi:i<L.length),i≠0→fA L[i].pa=true∧aU L[i].pk=true∧bT (L.take i) L[i].pa<0∧0≤bT (L.take i) (L[i].pa.take (L[i].pa.length - 1)):=fun i hi hne=>by
  have q:=hall i hi hne;rw [qA hi] at q;unfold vP at q;simp only [Bool.and_eq_true,decide_eq_true_eq] at q;exact ⟨q.1.1.1.1.1,q.1.1.2,q.1.2,q.2⟩
 have hlt:∀ i j (hi:i<L.length) (hj:j<L.length),i<j→L[i].pa≠L[j].pa:=fun i j hi hj hij e=>by
  have h1:=(hfol j hj (by omega)).2.2.1
  rcases pU (L.take j) L[j].pa with ⟨_,h2⟩|⟨k,_,h2,_⟩
  · exact h2 i (by rw [List.length_take];omega) (by rw [List.getElem_take];exact e)
  · omega
 refine ⟨⟨h0,h257⟩,fun _=>hroot,fun i hi hne=> ?_,fun i j hi hj e=> ?_,fun i hi hne=> ?_⟩
 · obtain ⟨h1,h2,_⟩:=hfol i hi hne
   unfold fA at h1;simp only [Bool.and_eq_true,decide_eq_true_eq] at h1;exact ⟨List.length_pos_iff.1 h1.1.1,h1.1.2,h1.2,h2⟩
 · rcases Nat.lt_trichotomy i j with h|h|h
   · exact absurd e (hlt i j hi hj h)
   · exact h
   · exact absurd e.symm (hlt j i hj hi h)
 · have h1:=(hfol i hi hne).2.2.2
   rcases pU (L.take i) (L[i].pa.take (L[i].pa.length - 1)) with ⟨h2,_⟩|⟨k,hk,_,h2,_⟩
   · omega
   · rw [List.length_take] at hk
     rw [List.getElem_take] at h2;exact ⟨k,by omega,by omega,h2⟩
def kE:ByteArray:=⟨#[47,109,111,100,117,108,101,115]⟩
def fH:ByteArray:=⟨#[47,112,97,99,107,97,103,101]⟩
def kF:ByteArray:=⟨#[47,109,97,110,105,102,101,115,116]⟩
def gW:ByteArray:=⟨#[47,108,111,99,107]⟩
def qH:ByteArray:=⟨#[47,112,114,117,110,101,100]⟩
inductive Ca where
 |man|lok|pru
 |mod (p:List ByteArray)
 |dir (p:List ByteArray)
 |pkg (d:Dr)
noncomputable def caF (mt lt:ByteArray):Ca→Fi
 | .man=>⟨kF,false,mt⟩
 | .lok=>⟨gW,false,lt⟩
 | .pru=>⟨qH,false,⟨#[]⟩⟩
 | .mod p=>⟨aO p++kE,true,⟨#[]⟩⟩
 | .dir p=>⟨aO p,true,⟨#[]⟩⟩
 | .pkg d=>⟨aO d.pa++fH,false,bA d.pk⟩
def tg (s:ByteArray):Nat:=if s.data.toList.count 47 % 2=0 then 0 else ((s.data.toList.getLast?).getD 0).toNat
def tgC:Ca→Nat
 | .man=>116| .lok=>107| .pru=>100| .mod _=>115| .dir _=>0| .pkg _=>101
def TL (L:List Dr):Ca→Prop
 | .mod p=>aT p=true
 | .dir p=>aT p=true
 | .pkg d=>aT d.pa=true∧d ∈ L
 |_=>True
theorem fQ (p:List ByteArray):(aO p).data.toList=aZ p:=by unfold aO;simp
theorem XT {p:List ByteArray} (hp:aT p=true) (t:ByteArray) (h1:t.data.toList.count 47=1) {c:UInt8} (h2:t.data.toList.getLast? =some c):tg (aO p++t)=c.toNat:=by
 unfold tg;have e:(aO p++t).data.toList=aZ p++t.data.toList:=by rw [cG,fQ]
 have hne:t.data.toList≠[]:=fun q=>by rw [q] at h2;cases h2
 rw [e,List.count_append,iF hp,h1,if_neg (by omega),List.getLast?_append,h2];rfl
theorem GQ {L:List Dr} {mt lt:ByteArray} {a:Ca} (h:TL L a):tg (caF mt lt a).pa=tgC a:=by
 cases a with
 |man=>show tg kF=116;decide
 |lok=>show tg gW=107;decide
 |pru=>show tg qH=100;decide
 |mod p=>exact XT h kE (by decide) (c:=115) (by decide)
 |dir p=>
  have h0:aT p=true:=h;unfold tg caF
  simp only
  rw [fQ,iF h0,if_pos (by omega)];rfl
 |pkg d=>exact XT h.1 fH (by decide) (c:=101) (by decide)
theorem oO {p q:List ByteArray} (hp:aT p=true) (hq:aT q=true) (h:aO p=aO q):p=q:=by
 have hl:p.length=q.length:=by
  have:=congrArg (fun s:ByteArray=>s.data.toList.count 47) h
  simp only [fQ,iF hp,iF hq] at this;omega
 rcases Classical.em (p=[]) with rfl|h0
 · exact (List.eq_nil_of_length_eq_zero (by simpa using hl.symm)).symm
 · have hq0:q≠[]:=fun e=>h0 (List.eq_nil_of_length_eq_zero (by rw [hl,e];rfl))
   have e1:aH p=aO p:=by unfold aH;rw [if_neg h0,if_pos hp];rfl
   have e2:aH q=aO q:=by unfold aH;rw [if_neg hq0,if_pos hq];rfl
   have h1:=jG (Or.inr hp);have h2:=jG (Or.inr hq);rw [e1,h,←e2,h2] at h1;exact (Option.some.inj h1).symm
theorem wD {s t u:ByteArray} (h:s++u=t++u):s=t:=by
 have:=congrArg (fun x:ByteArray=>x.data.toList) h
 simp only [cG] at this;refine bC ?_;rw [ByteArray.toList_eq,ByteArray.toList_eq];exact List.append_cancel_right this
theorem MJ {L:List Dr} (hu:∀ d ∈ L,∀ e ∈ L,d.pa=e.pa→d=e) {mt lt:ByteArray} {a b:Ca} (ha:TL L a) (hb:TL L b) (h:(caF mt lt a).pa=(caF mt lt b).pa):a=b:=by
 have ht:tgC a=tgC b:=by rw [←GQ (mt:=mt) (lt:=lt) ha,←GQ (mt:=mt) (lt:=lt) hb,h]
 cases a<;>cases b<;>simp only [tgC] at ht<;>first|rfl|(exfalso;omega)|skip
 · rw [oO ha hb (wD h)]
 · rw [oO ha hb h]
 · rw [hu _ ha.2 _ hb.2 (oO ha.1 hb.1 (wD h))]
theorem TrOk.mem_uniq {L:List Dr} (h:TrOk L):∀ d ∈ L,∀ e ∈ L,d.pa=e.pa→d=e:=fun d hd e he q=>by
 obtain ⟨i,hi,rfl⟩:=List.getElem_of_mem hd;obtain ⟨j,hj,rfl⟩:=List.getElem_of_mem he;obtain rfl:=h.uniq i j hi hj q;rfl
def upP (p:List ByteArray):List ByteArray:=p.take (p.length - 1)
def gN (pr:Bool):List Ca:=[.man,.lok]++if pr=true then [.pru] else []
def caP (pr:Bool) (L:List Dr):List Ca:=gN pr++(L.drop 1).flatMap fun d=>[.mod (upP d.pa),.dir d.pa,.pkg d]
noncomputable def GR (L:List Dr) (p:List ByteArray):Bool:=L.any fun d=>stB d.pa p
noncomputable def caD (pr:Bool) (L:List Dr):List Ca:=gN pr++(if 1<L.length then [.mod []] else [])++(L.drop 1).flatMap fun d=>[.dir d.pa,.pkg d]++if GR L d.pa=true then [.mod d.pa] else []
theorem dO {L:List Dr} {d:Dr}:d ∈ L.drop 1↔∃ i,∃ hi:i<L.length,i≠0∧L[i]=d:=by
 rw [List.mem_iff_getElem]
 constructor
 · rintro ⟨i,hi,rfl⟩
   rw [List.length_drop] at hi;exact ⟨1+i,by omega,by omega,by rw [List.getElem_drop]⟩
 · rintro ⟨i,hi,hne,rfl⟩
   refine ⟨i - 1,by rw [List.length_drop];omega,?_⟩;rw [List.getElem_drop]
   congr 1
   omega
theorem GS {p:List ByteArray} (h:aT p=true):aT (upP p)=true:=by
 unfold aT at*;rw [List.all_eq_true] at*;exact fun x hx=>h x (List.mem_of_mem_take hx)
theorem PU {L:List Dr} {pr:Bool} {a:Ca} (h:a ∈ gN pr):TL L a:=by
 unfold gN at h;cases pr<;>simp at h<;>rcases h with rfl|h<;>first|trivial|(rcases h with rfl|rfl<;>trivial)|(subst h;trivial)
theorem XU {L:List Dr} (h:TrOk L) {pr:Bool} {a:Ca} (ha:a ∈ caP pr L):TL L a:=by
 unfold caP at ha
 rcases List.mem_append.1 ha with ha|ha
 · exact PU ha
 · obtain ⟨d,hd,ha⟩:=List.mem_flatMap.1 ha
   obtain ⟨i,hi,hne,rfl⟩:=dO.1 hd;have hn:=(h.names i hi hne).2.1;simp only [List.mem_cons,List.not_mem_nil,or_false] at ha
   rcases ha with rfl|rfl|rfl
   · exact GS hn
   · exact hn
   · exact ⟨hn,List.getElem_mem hi⟩
theorem rX {L:List Dr} (h:TrOk L) {pr:Bool} {a:Ca} (ha:a ∈ caD pr L):TL L a:=by
 unfold caD at ha
 rcases List.mem_append.1 ha with ha|ha
 · rcases List.mem_append.1 ha with ha|ha
   · exact PU ha
   · split at ha
     · rw [List.mem_singleton.1 ha]
       exact rfl
     · cases ha
 · obtain ⟨d,hd,ha⟩:=List.mem_flatMap.1 ha
   obtain ⟨i,hi,hne,rfl⟩:=dO.1 hd;have hn:=(h.names i hi hne).2.1
   rcases List.mem_append.1 ha with ha|ha
   · simp only [List.mem_cons,List.not_mem_nil,or_false] at ha
     rcases ha with rfl|rfl
     · exact hn
     · exact ⟨hn,List.getElem_mem hi⟩
   · split at ha
     · rw [List.mem_singleton.1 ha]
       exact hn
     · cases ha
theorem qI {L:List Dr} (h:TrOk L) {pr:Bool} {a:Ca}:a ∈ caP pr L↔a ∈ caD pr L:=by
 unfold caP caD;simp only [List.mem_append,List.mem_flatMap]
 constructor
 · rintro (ha|⟨d,hd,ha⟩)
   · exact Or.inl (Or.inl ha)
   · obtain ⟨i,hi,hne,rfl⟩:=dO.1 hd
     simp only [List.mem_cons,List.not_mem_nil,or_false] at ha
     rcases ha with rfl|rfl|rfl
     · obtain ⟨q,hq,hqi,e⟩:=h.above i hi hne
       have e2:upP L[i].pa=L[q].pa:=e.symm;rw [e2]
       by_cases h0:q=0
       · subst h0
         rw [h.root (by omega)];exact Or.inl (Or.inr (by rw [if_pos (by omega)];simp))
       · refine Or.inr ⟨L[q],dO.2 ⟨q,hq,h0,rfl⟩,Or.inr ?_⟩
         have hin:GR L L[q].pa=true:=by
          unfold GR;rw [List.any_eq_true];refine ⟨L[i],List.getElem_mem hi,PT.2 ⟨List.length_pos_iff.2 (h.names i hi hne).1,e.symm⟩⟩
         rw [if_pos hin]
         simp
     · exact Or.inr ⟨L[i],hd,Or.inl (by simp)⟩
     · exact Or.inr ⟨L[i],hd,Or.inl (by simp)⟩
 · rintro ((ha|ha)|⟨d,hd,ha|ha⟩)
   · exact Or.inl ha
   · split at ha
     · rename_i h1
       rw [List.mem_singleton.1 ha];obtain ⟨q,hq,hq1,e⟩:=h.above 1 h1 (by decide);obtain rfl:q=0:=by omega
       refine Or.inr ⟨L[1],dO.2 ⟨1,h1,by decide,rfl⟩,?_⟩
       have:upP L[1].pa=[]:=by
        have e2:upP L[1].pa=L[0].pa:=e.symm;rw [e2,h.root (by omega)]
       simp [this]
     · cases ha
   · refine Or.inr ⟨d,hd,?_⟩
     simp only [List.mem_cons,List.not_mem_nil,or_false] at ha
     rcases ha with rfl|rfl<;>simp
   · obtain ⟨i,hi,hne,rfl⟩:=dO.1 hd
     split at ha
     · rename_i hin
       rw [List.mem_singleton.1 ha];unfold GR at hin;rw [List.any_eq_true] at hin;obtain ⟨e,he,hs⟩:=hin;obtain ⟨j,hj,rfl⟩:=List.getElem_of_mem he;obtain ⟨hp,e2⟩:=PT.1 hs
       have hj0:j≠0:=fun q=>by
        subst q;rw [h.root hj] at hp;cases hp
       refine Or.inr ⟨L[j],dO.2 ⟨j,hj,hj0,rfl⟩,?_⟩;have e3:upP L[j].pa=L[i].pa:=e2;simp [e3]
     · cases ha
end Go.Proofs.YtmnhnofnlcbliaaGreatDoor
