/- Ts7, Tw12: their declarations that are needed, laid in one text, remarks and blanks left out. -/
import Derived.Test.YtlmpiohbmlddiaaGreatDoorMg29
namespace Go.Proofs.YtlmpiohbmlddiaaGreatDoor
open Go.RowKit
set_option maxRecDepth 100000
theorem vT (g o:Nat) (e:Eg):KeepP fun w1=>EgIn w1 g o e:=fun _ _ h hb=>h.below hb
def BxNq (w:World) (N:Nat) (s:ByteArray) (a b c:Int) (v1 v2:Value):Prop:=(w.cell? ⟨N,0,none⟩=some (.string s)∧w.cell? ⟨N,1,none⟩=some (.int .i64 a)∧w.cell? ⟨N,2,none⟩=some (.int .i64 b)∧w.cell? ⟨N,3,none⟩=some (.int .i64 c)∧w.cell? ⟨N,4,none⟩=some v1∧w.cell? ⟨N,5,none⟩=some v2)∧N<w.heap.size
theorem zY (N:Nat) (s:ByteArray) (a b c:Int) (v1 v2:Value):KeepP fun w1=>BxNq w1 N s a b c v1 v2:=fun w w' h hb=>by
 obtain ⟨⟨h0,h1,h2,h3,h4,h5⟩,hg⟩:=h;have q:∀ i,w'.cell? ⟨N,i,none⟩=w.cell? ⟨N,i,none⟩:=fun i=>hb.cell (p:=⟨N,i,none⟩) hg
 exact ⟨⟨by rw [q];exact h0,by rw [q];exact h1,by rw [q];exact h2,by rw [q];exact h3,by rw [q];exact h4,by rw [q];exact h5⟩,Nat.lt_of_lt_of_le hg hb.size⟩
theorem BxNq.new (w:World) (s:ByteArray) (a b c:Int) (v1 v2:Value):BxNq (w.alloc (.cells #[.string s,.int .i64 a,.int .i64 b,.int .i64 c,v1,v2] 60)) w.heap.size s a b c v1 v2:=by
 refine ⟨⟨?_,?_,?_,?_,?_,?_⟩,?_⟩<;>simp
theorem RE (n:Nat) (h:1≤n):(cE n).m=0::List.replicate (n - 1) (-1):=by
 obtain ⟨k,rfl⟩:∃ k,n=k+1:=⟨n - 1,by omega⟩;simp [cE,List.replicate_succ]
theorem KL (i:Nat) (h:1≤i):eQ (0::List.replicate (i+1 - 1) (-1))=eQ (0::List.replicate (i - 1) (-1))++[.int .i64 (-1)]:=by
 obtain ⟨k,rfl⟩:∃ k,i=k+1:=⟨i - 1,by omega⟩;simp [eQ,List.replicate_succ']
def Lp3 (w:World) (vt vg:Value) (n:Nat) (vm vi:Value) (wr:World):Prop:=∃ i cm gm:Nat,(1≤i∧i≤n)∧vi= .int .i64 (i:Int)∧vm= .slice (some ⟨gm,0,none⟩) i cm∧(Below w.heap.size w wr∧BxT wr w.heap.size vt∧BxT wr (w.heap.size+1) vg)∧wr.ownsRow (w.heap.size+2) 3 1 (.slice (some ⟨gm,0,none⟩) i cm) i (eQ (0::List.replicate (i - 1) (-1)))
set_option maxHeartbeats 25600000 in
theorem PL {L:List Dr} {G:List Nd} {vt vg:Value} {w:World} (ht:DirsAt w vt L) (hz:L.length≤9223372036854775807) (hk:iB L) (hn:∀ d ∈ L,PgN d.pk∧∀ s ∈ d.pa,s.size≤9223372036854775807) (hg:NodesAt w vg G) (hgz:oT G) (hlb:∀ n ∈ G,∀ e ∈ n.ed,e.lb.size≤9223372036854775807):
 Calls Tryz.prog 45 #[.agg #[vt],.agg #[vg]] w fun e w'=>hI w L G e w':=by
 have HCK:Hid (∀ w1,Below w.heap.size w w1→Calls Tryz.prog 100 #[.agg #[vt]] w1 fun e w'=>e= .returned (.int .i64 (sI (bP L)))∧Below w1.heap.size w1 w'):=fun w1 hb=>DR (ht.below hb) hz hk hn
 have HLK:Hid (∀ w1,Below w.heap.size w w1→∀ (r:Nat) s,s.size≤9223372036854775807→Calls Tryz.prog 101 #[.agg #[vt],.int .i64 r,.string s] w1 fun e w'=>e= .returned (.int .i64 (bY L r s))∧Below w1.heap.size w1 w'):=fun w1 hb r s hs=>KK (ht.below hb) hz hk.1 r s hs
 have HDT:Hid (∀ w1,Below w.heap.size w w1→DirsAt w1 vt L):=fun w1 hb=>ht.below hb
 have HDG:Hid (∀ w1,Below w.heap.size w w1→NodesAt w1 vg G):=fun w1 hb=>hg.below hb
 have HLB:=aA hlb;obtain ⟨ta,tc,rfl,htc,htx⟩:=ht.sl;obtain ⟨ga,gc,rfl,hgc,hgx⟩:=hg;have HKB:Hid (KeepP fun w1=>Below w.heap.size w w1∧BxT w1 w.heap.size (.slice ta L.length tc)∧BxT w1 (w.heap.size+1) (.slice ga G.length gc)):=(aD w).and ((bI _ _).and (bI _ _));have HBX:Hid (Below w.heap.size w ((w.alloc (.cells #[.slice ta L.length tc] 30)).alloc (.cells #[.slice ga G.length gc] 27))∧BxT ((w.alloc (.cells #[.slice ta L.length tc] 30)).alloc (.cells #[.slice ga G.length gc] 27)) w.heap.size (.slice ta L.length tc)∧BxT ((w.alloc (.cells #[.slice ta L.length tc] 30)).alloc (.cells #[.slice ga G.length gc] 27)) (w.heap.size+1) (.slice ga G.length gc)):=⟨aV _ _ _,bI _ _ _ _ (BxT.new _ _) (aF _ _),by have h:=BxG.new (w.alloc (.cells #[.slice ta L.length tc] 30)) (.slice ga G.length gc);rw [show (w.alloc (.cells #[.slice ta L.length tc] 30)).heap.size=w.heap.size+1 by simp] at h;exact h⟩
 have hgz1:=hgz.1;have HGZ:=aA hgz.2;clear ht hk hn hgz htx hgx hlb;cases hcb:bP L
 · rw [hcb,show sI false=42 from rfl] at HCK
   have HQ:Hid (∀ w',Below w.heap.size w w'→hI w L G (.returned (.tuple #[.slice none 0 0,.int .i64 42])) w'):=fun w' hb=>NK hcb hb
   go_enter Tryz.func45,Tryz.ntmps45
   go_wp2_with (go_at_call 100;refine (HCK.out _ (aV _ _ _)).mono ?_;rintro e w3 ⟨rfl,ok⟩;have HB3:=aA (HKB.out _ _ HBX.out ok);clear ok)
   go_ret2;exact HQ.out _ HB3.out.1
 · rw [hcb,show sI true=0 from rfl] at HCK
   have HQL:Hid (cL G=false→∀ w',Below w.heap.size w w'→hI w L G (.returned (.tuple #[.slice none 0 0,.int .i64 33])) w'):=fun h w' hb=>NL hcb h hb
   by_cases hG0:G.length=0
   · have HQ:=aA (HQL.out (by unfold cL;rw [hG0];rfl))
     rw [hG0] at HBX HKB ⊢
     go_enter Tryz.func45,Tryz.ntmps45
     go_wp2_with (go_at_call 100;refine (HCK.out _ (aV _ _ _)).mono ?_;rintro e w3 ⟨rfl,ok⟩;have HB3:=aA (HKB.out _ _ HBX.out ok);obtain ⟨_,⟨x0,x1⟩,⟨y0,y1⟩⟩:=HB3.out;clear ok)
     go_ret2;exact HQ.out _ HB3.out.1
   · have hgn:((G.length:Int)==0)=false:=by rw [beq_eq_false_iff_ne];omega
     have hcc:=(dL.1 hcb).1;have hl1:1≤L.length:=hcc.1;have hl2:L.length≤257:=hcc.2
     have HNO:Hid (∀ k (hk:k<G.length),G[k].ed.all (toB G.length)=false→cL G=false):=fun k hk h=>by
      unfold cL;rw [pE (p:=fun n:Nd=>n.ed.all (toB G.length)) hk h]
      simp
     have HYE:Hid (G.all (fun n=>n.ed.all (toB G.length))=true→cL G=true):=fun h=>by
      unfold cL;rw [h,decide_eq_true (by omega)];rfl
     have HQN:Hid (cL G=true→dW L G=none→∀ w',Below w.heap.size w w'→hI w L G (.returned (.tuple #[.slice none 0 0,.int .i64 42])) w'):=fun h1 h w' hb=>NM hcb h1 h hb
     have HQY:Hid (cL G=true→∀ m v w',dW L G=some m→OwnI w' w.heap.size v m→Below w.heap.size w w'→hI w L G (.returned (.tuple #[v,.int .i64 0])) w'):=fun h1 m v w' h ho hb=>NN hcb h1 h ho hb
     obtain ⟨ga',gc',eq,_,hnd⟩:=HDG.out w (Below.refl _ _);cases eq
     obtain ⟨gg,go,rfl,_,hnz⟩:∃ g o,ga=some ⟨g,o,none⟩∧g<w.heap.size∧∀ i (h:i<G.length),∃ vc ve,NdIn w g (o+i*6) G[i] vc ve:=by
      rcases hnd with h|h
      · rw [h] at hG0;simp at hG0
      · exact h
     have HNZ:Hid (∀ w1,Below w.heap.size w w1→∀ i (h:i<G.length),∃ vc ve,NdIn w1 gg (go+i*6) G[i] vc ve):=fun w1 hb i hi=>by obtain ⟨vc,ve,h⟩:=hnz i hi;exact ⟨vc,ve,h.below hb⟩
     clear hcc hcb hnd hnz HDG
     go_enter Tryz.func45,Tryz.ntmps45
     go_wp2_with (go_at_call 100;refine (HCK.out _ (aV _ _ _)).mono ?_;rintro e w3 ⟨rfl,ok⟩;have HB3:=aA (HKB.out _ _ HBX.out ok);obtain ⟨_,⟨x0,x1⟩,⟨y0,y1⟩⟩:=HB3.out;clear ok)
     go_loopw [7] (fun vi wr=>∃ i:Nat,i≤G.length∧vi= .int .i64 i∧wr=w3∧(G.take i).all (fun n=>n.ed.all (toB G.length))=true) (fun vi _=>G.length - (intOf vi).toNat)
     case atStart=>exact ⟨0,Nat.zero_le _,rfl,rfl,rfl⟩
     case round=>
      obtain ⟨i,hi,rfl,hww,hall⟩:=hrel;subst wr;have HALL:=aA hall;clear hall
      by_cases hlt:i<G.length
      · obtain ⟨vc,ve,⟨c0,c1,c2,c3,c4,c5⟩,⟨hpn,hed⟩,hgg⟩:=HNZ.out w3 HB3.out.1 i hlt
        have hez:=HGZ.out _ (List.getElem_mem hlt);have HNK:=aA (HNO.out i hlt);have HNX:Hid (G[i].ed.all (toB G.length)=true→(G.take (i+1)).all (fun n=>n.ed.all (toB G.length))=true):=fun h=>mH hlt HALL.out h
        obtain ⟨ea,ec,rfl,hec,hedz⟩:=hed;generalize G[i]=nd at*;clear c0 c1 c2 c3 c4 hpn
        go_wp2_with fail
        go_loopw [8] (fun vj wx=>∃ j:Nat,j≤nd.ed.length∧vj= .int .i64 j∧wx=w3∧(nd.ed.take j).all (toB G.length)=true) (fun vj _=>nd.ed.length - (intOf vj).toNat)
        case atStart=>exact ⟨0,Nat.zero_le _,rfl,rfl,rfl⟩
        case round=>
         obtain ⟨j,hj,rfl,hww,hali⟩:=hrel;subst wr;have HALI:=aA hali
         by_cases hlj:j<nd.ed.length
         · obtain ⟨eg,eo,rfl,heg,hcz⟩:∃ g o,ea=some ⟨g,o,none⟩∧g<w3.heap.size∧∀ i (h:i<nd.ed.length),EgIn w3 g (o+i*2) nd.ed[i]:=by
            rcases hedz with h|h
            · rw [h] at hlj;simp at hlj
            · exact h
           obtain ⟨⟨e0,e1⟩,_⟩:=hcz j hlj;have HTN:Hid (toB G.length nd.ed[j]=true→(nd.ed.take (j+1)).all (toB G.length)=true):=fun h=>mH hlj HALI.out h
           have HTF:Hid (toB G.length nd.ed[j]=false→cL G=false):=fun h=>HNK.out (pE hlj h)
           have HTB:Hid (toB G.length nd.ed[j]=(decide (0<nd.ed[j].to)&&decide (nd.ed[j].to<(G.length:Int)))):=rfl;generalize toB G.length nd.ed[j]=tb at*;generalize nd.ed[j]=eg1 at*;clear hcz hali
           by_cases hq1:eg1.to≤0
           · have HR:=aA (HQL.out (HTF.out (by rw [HTB.out,decide_eq_false (by omega)];rfl)))
             have hq3:eg1.to<1:=by omega
             go_wp2
             go_ret2;exact HR.out _ HB3.out.1
           · have hq3:¬ (eg1.to<1):=by omega
             by_cases hq2:(G.length:Int)≤eg1.to
             · have HR:=aA (HQL.out (HTF.out (by rw [HTB.out,decide_eq_false (show ¬ eg1.to<(G.length:Int) by omega)];simp)))
               go_wp2
               go_ret2;exact HR.out _ HB3.out.1
             · have HR:=aA (HTN.out (by rw [HTB.out,decide_eq_true (by omega),decide_eq_true (by omega)];rfl))
               go_wp2
               exact ⟨⟨j+1,by omega,by go_num,trivial,HR.out⟩,by simp [intOf];omega⟩
         · obtain rfl:j=nd.ed.length:=by omega
           have HR:=aA (HNX.out (by rw [List.take_length] at hali;exact hali));clear hali
           go_wp2
           exact ⟨⟨i+1,by omega,by go_num,trivial,HR.out⟩,by simp [intOf];omega⟩
      · obtain rfl:i=G.length:=by omega
        have HLD:Hid (cL G=true):=HYE.out (by have:=HALL.out;rw [List.take_length] at this;exact this);have HTO:=aA (kI HLD.out);have HQN2:=aA (HQN.out HLD.out);have HQY2:=aA (HQY.out HLD.out);have hB3:w.heap.size+2≤w3.heap.size:=HB3.out.2.2.2;have HL30:Hid (Lp3 w (.slice ta L.length tc) (.slice (some ⟨gg,go,none⟩) G.length gc) L.length (.slice (some ⟨w3.heap.size,0,none⟩) 1 1) (.int .i64 1) (w3.alloc (.cells #[.int .i64 0] 3))):=⟨1,1,w3.heap.size,⟨Nat.le_refl _,hl1⟩,rfl,rfl,HKB.out _ _ HB3.out (aF _ _),⟨rfl,Or.inr ⟨w3.heap.size,1,#[.int .i64 0],rfl,hB3,heap_alloc_new _ _,Nat.le_refl _,by unfold maxLen;omega,rfl,rfl⟩⟩⟩
        go_wp2_with fail
        clear x0 x1 y0 y1
        go_loopw [10,11] (fun vm vi wr=>Lp3 w (.slice ta L.length tc) (.slice (some ⟨gg,go,none⟩) G.length gc) L.length vm vi wr) (fun _ vi _=>L.length - (intOf vi).toNat)
        case atStart=>exact HL30.out
        case round=>
         obtain ⟨i,cm,g,⟨hi1,hi2⟩,rfl,rfl,⟨hb,⟨x0,x1⟩,⟨y0,y1⟩⟩,hrow⟩:=hrel;have HBR:Hid (Below w.heap.size w wr∧BxT wr w.heap.size (.slice ta L.length tc)∧BxT wr (w.heap.size+1) (.slice (some ⟨gg,go,none⟩) G.length gc)):=⟨hb,⟨x0,x1⟩,⟨y0,y1⟩⟩;have HRW:=aA hrow;have hgB:=(World.ownsRow.lt hrow g rfl).1;have hBr:w.heap.size+2≤wr.heap.size:=y1;clear hrow hb
         by_cases hlt:i<L.length
         · have HFN:Hid (∀ v5 w5,w5.ownsRow (w.heap.size+2) 3 1 v5 (i+1) (eQ (0::List.replicate (i - 1) (-1))++[.int .i64 (-1)])→(wr.alloc (.cells #[.int .i64 (-1)] 3)).grownBy w5 (some g)→∃ g5 c5,v5= .slice (some ⟨g5,0,none⟩) (i+1) c5∧Lp3 w (.slice ta L.length tc) (.slice (some ⟨gg,go,none⟩) G.length gc) L.length (.slice (some ⟨g5,0,none⟩) (i+1) c5) (.int .i64 ((i:Int)+1)) w5):=fun v5 w5 ho hgr=>by
            have hgo:=iN (aF _ _) hgr;obtain ⟨g5,c5,rfl,_⟩:=ho.form (by omega);refine ⟨g5,c5,rfl,i+1,c5,g5,⟨by omega,by omega⟩,by simp,rfl,⟨HBR.out.1.grown hgo HBR.out.1.size (fun k hk=>by cases hk;omega),⟨hgo.cell HBR.out.2.1.1 (by simp;omega),Nat.lt_of_lt_of_le HBR.out.2.1.2 hgo.size⟩,⟨hgo.cell HBR.out.2.2.1 (by simp;omega),Nat.lt_of_lt_of_le HBR.out.2.2.2 hgo.size⟩⟩,?_⟩;rw [KL i hi1];exact ho
           go_wp2_with (at_builtin;refine vA (B:=w.heap.size+2) (wx:=wr) (x:= -1) (v:= .slice (some ⟨g,0,none⟩) i cm) (n:=i) rfl (.tmp 72) (.tmp 73) rfl rfl HRW.out hBr rfl rfl (by omega) ?_;intro v5 w5 ho hgr hat;obtain ⟨g5,c5,rfl,hlp⟩:=HFN.out _ _ ho hgr;have HLP:=aA hlp;clear ho hgr hat hlp)
           exact ⟨HLP.out,by simp [intOf];omega⟩
         · obtain rfl:i=L.length:=by omega
           have HST:Hid (StQ w (.slice ta L.length tc) (.slice (some ⟨gg,go,none⟩) G.length gc) g cm wr.heap.size 1 (cE L.length) (wr.alloc (.cells #[.int .i64 0] 3))):=by
            have e:(cE L.length).m.length=L.length:=by simp [cE]
            refine ⟨HKB.out _ _ HBR.out (aF _ _),⟨?_,⟨rfl,Or.inr ⟨wr.heap.size,1,#[.int .i64 0],rfl,hBr,heap_alloc_new _ _,Nat.le_refl _,by unfold maxLen;omega,rfl,rfl⟩⟩⟩,?_⟩
            · rw [e,RE _ hl1]
              exact bS HRW.out (aF _ _)
            · have:=(World.ownsRow.lt HRW.out g rfl).2
              omega
           have HMI:Hid (MInv L G (cE L.length)):=MInv.start hl1 HTO.out.1
           go_wp2_with fail
           clear x0 x1 y0 y1
           go_loopw [12,13] (fun vq vi wr=>VS w (.slice ta L.length tc) (.slice (some ⟨gg,go,none⟩) G.length gc) g cm L G vq vi wr) (fun _ vi _=>L.length+1 - (intOf vi).toNat)
           case atStart=>exact ⟨cE L.length,0,wr.heap.size,1,HMI.out,Nat.zero_le _,rfl,rfl,HST.out,rfl⟩
           case round=>
            obtain ⟨st,i,q,c,hinv,hi,rfl,rfl,hst,hrun⟩:=hrel;have HIN:=aA hinv;have HSTM:=aA hst;have HRUN:=aA hrun;obtain ⟨wa,rfl⟩:∃ x,x=wr:=⟨wr,rfl⟩;have hqL:=hinv.short
            by_cases hlt:i<st.q.length
            · obtain ⟨r,hr⟩:∃ r,r=st.q[i]:=⟨_,rfl⟩
              obtain ⟨hrm,hr0⟩:=hinv.qin r (by rw [hr];exact List.getElem_mem hlt);have hrL:r<L.length:=by rw [←hinv.len];exact hrm
              obtain ⟨y,hy⟩:∃ y:Nat,st.m[r]=y:=⟨st.m[r].toNat,by omega⟩
              have hyG:y<G.length:=by
               rcases hinv.each r hrm with h|h
               · omega
               · rw [hy] at h;omega
              have HSQ:Hid (st.q[i]? =some r):=by unfold Hid;rw [List.getElem?_eq_getElem hlt,hr]
              have HED0:Hid (dW L G=(eC L G r G[y].ed st).bind (hF L G (L.length - i) (i+1))):=by
               unfold Hid;rw [HRUN.out,show L.length+1 - i=(L.length - i)+1 by omega,CS HSQ.out]
               have e:fM G st r=G[y].ed:=by
                unfold fM;rw [bO hrm,hy,Int.toNat_natCast,bO hyG]
               rw [e]
              obtain ⟨vc,ve,hni⟩:=HNZ.out w (Below.refl _ _) y hyG;have HEA:Hid (∀ w1,Below w.heap.size w w1→EdgesAt w1 ve G[y].ed):=fun w1 hb=>hni.2.1.2.below hb
              have HLY:Hid (∀ e ∈ G[y].ed,e.lb.size≤9223372036854775807):=HLB.out _ (List.getElem_mem hyG);have HTY:Hid (∀ e ∈ G[y].ed,0<e.to∧e.to<(G.length:Int)):=HTO.out.2 _ (List.getElem_mem hyG);have hez:=HGZ.out _ (List.getElem_mem hyG);have i1:=hst.seen hlt;rw [←hr] at i1;have i2:=hst.node hrm;rw [hy] at i2;obtain ⟨ea,ec,rfl⟩:=hni.2.1.2.sl;obtain ⟨pa,pc,rfl⟩:=hni.2.1.1.sl;generalize G[y]=nd at*;have HK:Hid (KeepP fun w1=>StQ w (.slice ta L.length tc) (.slice (some ⟨gg,go,none⟩) G.length gc) g cm q c st w1∧(InI w1 q i (r:Int)∧InI w1 g r (y:Int))∧NdIn w1 gg (go+y*6) nd (.slice pa nd.cx.length pc) (.slice ea nd.ed.length ec)):=(mX _ _ _ _ _ _ _ _).and (((dM _ _ _).and (dM _ _ _)).and (CT _ _ _ _ _))
              have HO:Hid (StQ w (.slice ta L.length tc) (.slice (some ⟨gg,go,none⟩) G.length gc) g cm q c st wa∧(InI wa q i (r:Int)∧InI wa g r (y:Int))∧NdIn wa gg (go+y*6) nd (.slice pa nd.cx.length pc) (.slice ea nd.ed.length ec)):=⟨hst,⟨i1,i2⟩,hni.below hst.1.1⟩;clear hst hrun hinv hni i1 i2 hr hy hr0 hrm
              go_wp2_with fail
              refine aM HK (by kernel_rfl) (by kernel_rfl) (by first|exact HO.out|exact HK.out.drew HO.out) ?_;intro C HIN HOUT;clear HO
              repeat
               (with_reducible refine wpQuiet_step (fun K hK=> ?_)
                go_simp
                first
                 |(refine hK _ ?_;clear hK K)
                 |(apply Exists.intro;refine ⟨fun w1 hC=> ?_,hK _ ?_⟩;(focus ((first|(exact rfl)|(obtain ⟨⟨⟨hb1,⟨t0,t1⟩,⟨u0,u1⟩⟩,_,_⟩,⟨⟨p0,p1⟩,⟨p2,p3⟩⟩,⟨⟨d0,d1,d2,d3,d4,d5⟩,_,dg⟩⟩:=HOUT.out w1 hC;clear hC;go_simp;first|done|exact rfl));done));clear hK K))
              refine wpQuiet_nil ?_;intro wn hC;have HO:=aA (HOUT.out _ hC);clear hC HIN HOUT C;obtain ⟨⟨⟨hb1,⟨t0,t1⟩,⟨u0,u1⟩⟩,_,_⟩,⟨⟨p0,p1⟩,⟨p2,p3⟩⟩,⟨⟨d0,d1,d2,d3,d4,d5⟩,_,dg⟩⟩:=HO.out
              go_wp2_with fail
              have HS0:Hid (StQ w (.slice ta L.length tc) (.slice (some ⟨gg,go,none⟩) G.length gc) g cm q c st wn):=HO.out.1;clear HO HK hb1 t0 t1 u0 u1 p0 p1 p2 p3 d0 d1 d2 d3 d4 d5 dg
              go_loopw [12,15] (fun vq vj wx=>VT w (.slice ta L.length tc) (.slice (some ⟨gg,go,none⟩) G.length gc) g cm L G i r nd.ed vq vj wx) (fun _ vj _=>nd.ed.length - (intOf vj).toNat)
              case atStart=>exact ⟨st,0,q,c,HIN.out,Nat.zero_le _,HSQ.out,rfl,rfl,HS0.out,HED0.out⟩
              case round=>
               clear HS0 HSQ HED0 HIN HSTM HRUN;obtain ⟨st,j,q,c,hinv,hj,hsq,rfl,rfl,hst,hrun⟩:=hrel;have HIN:=aA hinv;have HSQ:=aA hsq;have HRUN:=aA hrun;have hqL:=hinv.short;have hiq:i<st.q.length:=(List.getElem?_eq_some_iff.1 hsq).1
               by_cases hlj:j<nd.ed.length
               · have hej:=HTY.out _ (List.getElem_mem hlj)
                 obtain ⟨yt,hyt⟩:∃ yt:Nat,nd.ed[j].to=yt:=⟨nd.ed[j].to.toNat,by omega⟩;have hytG:yt<G.length:=by omega
                 obtain ⟨ea',ec',eq2,_,hcs⟩:=HEA.out wr hst.1.1;cases eq2
                 obtain ⟨eg,eo,rfl,heg,hcz⟩:∃ g o,ea=some ⟨g,o,none⟩∧g<wr.heap.size∧∀ i (h:i<nd.ed.length),EgIn wr g (o+i*2) nd.ed[i]:=by
                  rcases hcs with h|h
                  · rw [h] at hlj;simp at hlj
                  · exact h
                 have he1:=hcz j hlj;obtain ⟨ta',tc',eq3,_,hdd⟩:=HDT.out w (Below.refl _ _);cases eq3
                 obtain ⟨tg,tf,rfl,hds⟩:∃ g o,ta=some ⟨g,o,none⟩∧∀ i (h:i<L.length),∃ u v1 v2 v3,DrIn w g (o+i*9) L[i] u v1 v2 v3:=by
                  rcases hdd with h|h
                  · rw [h] at hl1;simp at hl1
                  · exact h
                 have HDS:=aA hds
                 have HSTEP:Hid (dW L G=((iC L G r st nd.ed[j]).bind (eC L G r (nd.ed.drop (j+1)))).bind (hF L G (L.length - i) (i+1))):=by
                  unfold Hid;rw [HRUN.out,List.drop_eq_getElem_cons hlj];rfl
                 have i1:=hst.seen hiq;have hqi:st.q[i]=r:=(List.getElem?_eq_some_iff.1 hsq).2;rw [hqi] at i1;clear hcs hdd hcz hds hqi hrun hinv hsq HRUN;have hle:=HLY.out _ (List.getElem_mem hlj);generalize nd.ed[j]=e at*;have HL:=aA (fun w1 hb=>HLK.out w1 hb r e.lb hle);have HN1:Hid (bY L (r:Int) e.lb<0→dW L G=none):=fun h=>by rw [HSTEP.out,qX h];rfl
                 have HN2:Hid (∀ k,bY L (r:Int) e.lb=(k:Nat)→∀ hk:k<L.length,eB L[k] G[yt]=false→dW L G=none):=fun k h hk h2=>by rw [HSTEP.out,qY h hk hyt hytG h2];rfl
                 have HN3:Hid (∀ k,bY L (r:Int) e.lb=(k:Nat)→∀ hk:k<L.length,eB L[k] G[yt]=true→∀ hm:k<st.m.length,st.m[k]<0→dW L G=(eC L G r (nd.ed.drop (j+1)) ⟨st.m.set k e.to,st.q++[k]⟩).bind (hF L G (L.length - i) (i+1))):=fun k h hk h2 hm hx=>by rw [HSTEP.out,yC h hk hyt hytG h2 hm hx];rfl
                 have HN4:Hid (∀ k,bY L (r:Int) e.lb=(k:Nat)→∀ hk:k<L.length,eB L[k] G[yt]=true→∀ hm:k<st.m.length,¬ st.m[k]<0→¬ st.m[k]=e.to→dW L G=none):=fun k h hk h2 hm hx hy=>by rw [HSTEP.out,mJ h hk hyt hytG h2 hm hx,if_neg hy];rfl
                 have HN5:Hid (∀ k,bY L (r:Int) e.lb=(k:Nat)→∀ hk:k<L.length,eB L[k] G[yt]=true→∀ hm:k<st.m.length,¬ st.m[k]<0→st.m[k]=e.to→dW L G=(eC L G r (nd.ed.drop (j+1)) st).bind (hF L G (L.length - i) (i+1))):=fun k h hk h2 hm hx hy=>by rw [HSTEP.out,mJ h hk hyt hytG h2 hm hx,if_pos hy];rfl
                 have hlv:=mC L (r:Int) e.lb;generalize bY L (r:Int) e.lb=av at*;have HGQ:Hid (g<wr.heap.size∧q<wr.heap.size):=⟨(World.ownsRow.lt hst.2.1.1 g rfl).2,(World.ownsRow.lt hst.2.1.2 q rfl).2⟩;have HK:Hid (KeepP fun w1=>StQ w (.slice (some ⟨tg,tf,none⟩) L.length tc) (.slice (some ⟨gg,go,none⟩) G.length gc) g cm q c st w1∧InI w1 q i (r:Int)∧EgIn w1 eg (eo+j*2) e):=(mX _ _ _ _ _ _ _ _).and ((dM _ _ _).and (vT _ _ _));have HO:Hid (StQ w (.slice (some ⟨tg,tf,none⟩) L.length tc) (.slice (some ⟨gg,go,none⟩) G.length gc) g cm q c st wr∧InI wr q i (r:Int)∧EgIn wr eg (eo+j*2) e):=⟨hst,i1,he1⟩;clear hst i1 HSTEP he1
                 rcases (show av= -1∨∃ k:Nat,av=k∧k<L.length by
                  rcases (show av= -1∨0≤av by omega) with h|h
                  · exact Or.inl h
                  · exact Or.inr ⟨av.toNat,by omega,by omega⟩) with rfl|⟨k,rfl,hkL⟩
                 · have HR:=aA (HN1.out (by decide))
                   go_wp2_with fail
                   refine aM HK (by kernel_rfl) (by kernel_rfl) (by first|exact HO.out|exact HK.out.drew HO.out) ?_;intro C HIN HOUT;clear HO
                   repeat
                    (with_reducible refine wpQuiet_step (fun K hK=> ?_)
                     go_simp
                     first
                      |(refine hK _ ?_;clear hK K)
                      |(apply Exists.intro;refine ⟨fun w1 hC=> ?_,hK _ ?_⟩;(focus ((first|(go_at_call 101;with_reducible exact aW HIN HOUT HK (fun w1 hk=>HL.out w1 (StQ.bel hk.1)) w1 hC)|(exact rfl)|(obtain ⟨⟨⟨hb1,⟨t0,t1⟩,⟨u0,u1⟩⟩,_,_⟩,⟨p0,p1⟩,⟨⟨e0,e1⟩,e2⟩⟩:=HOUT.out w1 hC;clear hC;go_simp;first|done|exact rfl));done));clear hK K))
                   refine wpQuiet_nil ?_;intro w28 hC;have HO:=aA (HOUT.out _ hC);clear hC HIN HOUT C;obtain ⟨⟨⟨hb1,⟨t0,t1⟩,⟨u0,u1⟩⟩,_,_⟩,⟨p0,p1⟩,⟨⟨e0,e1⟩,e2⟩⟩:=HO.out
                   go_wp2
                   go_ret2;exact HQN2.out HR.out _ HO.out.1.1.1
                 · go_wp2_with fail
                   refine aM HK (by kernel_rfl) (by kernel_rfl) (by first|exact HO.out|exact HK.out.drew HO.out) ?_;intro C HIN HOUT;clear HO
                   repeat
                    (with_reducible refine wpQuiet_step (fun K hK=> ?_)
                     go_simp
                     first
                      |(refine hK _ ?_;clear hK K)
                      |(apply Exists.intro;refine ⟨fun w1 hC=> ?_,hK _ ?_⟩;(focus ((first|(go_at_call 101;with_reducible exact aW HIN HOUT HK (fun w1 hk=>HL.out w1 (StQ.bel hk.1)) w1 hC)|(exact rfl)|(obtain ⟨⟨⟨hb1,⟨t0,t1⟩,⟨u0,u1⟩⟩,_,_⟩,⟨p0,p1⟩,⟨⟨e0,e1⟩,e2⟩⟩:=HOUT.out w1 hC;clear hC;go_simp;first|done|exact rfl));done));clear hK K))
                   refine wpQuiet_nil ?_;intro w28 hC;have HO:=aA (HOUT.out _ hC);clear hC HIN HOUT C;obtain ⟨⟨⟨hb1,⟨t0,t1⟩,⟨u0,u1⟩⟩,_,_⟩,⟨p0,p1⟩,⟨⟨e0,e1⟩,e2⟩⟩:=HO.out;have hmk:k<st.m.length:=by rw [HIN.out.len];exact hkL
                   obtain ⟨u,v1,v2,v3,hdk⟩:=HDS.out k hkL;obtain ⟨vc2,ve2,hn2⟩:=HNZ.out w (Below.refl _ _) yt hytG;obtain ⟨ua,uc,rfl⟩:=hdk.2.1.1.sl;obtain ⟨x1,z1,rfl⟩:=hdk.2.1.2.1.sl;obtain ⟨x2,z2,rfl⟩:=hdk.2.1.2.2.1.sl;obtain ⟨x3,z3,rfl⟩:=hdk.2.1.2.2.2.sl;obtain ⟨y1,k1,rfl⟩:=hn2.2.1.1.sl;obtain ⟨y2,k2,rfl⟩:=hn2.2.1.2.sl;have hd28:=hdk.below hb1;obtain ⟨⟨d0,d1,d2,d3,d4,d5,d6,d7,d8⟩,_,dg⟩:=hd28
                   go_wp2_with fail
                   clear d0 d1 d2 d3 d4 d5 d6 d7 d8 dg t0 t1 u0 u1 p0 p1 e0 e1 e2;obtain ⟨wp,hwp⟩:∃ wp,wp=w28.alloc (.cells #[.string L[k].pk.nm,.int .i64 L[k].pk.a,.int .i64 L[k].pk.b,.int .i64 L[k].pk.c,.slice x1 L[k].pk.d.length z1,.slice x2 L[k].pk.p.length z2,.slice x3 L[k].pk.o.length z3] 54):=⟨_,rfl⟩;rw [←hwp];have HBP:Hid (Below w28.heap.size w28 wp):=by rw [hwp];exact aF _ _
                   have HCL:Hid (∀ w1,Below w28.heap.size w28 w1→(w1.cell? ⟨w.heap.size+1,0,none⟩=some (.slice (some ⟨gg,go,none⟩) G.length gc)∧w1.cell? ⟨eg,eo+j*2+1,none⟩=some (.int .i64 e.to)∧w1.cell? ⟨gg,go+yt*6,none⟩=some (.string G[yt].nm)∧w1.cell? ⟨gg,go+yt*6+1,none⟩=some (.int .i64 G[yt].a)∧w1.cell? ⟨gg,go+yt*6+2,none⟩=some (.int .i64 G[yt].b)∧w1.cell? ⟨gg,go+yt*6+3,none⟩=some (.int .i64 G[yt].c)∧w1.cell? ⟨gg,go+yt*6+4,none⟩=some (.slice y1 G[yt].cx.length k1)∧w1.cell? ⟨gg,go+yt*6+5,none⟩=some (.slice y2 G[yt].ed.length k2))):=fun w1 hb=>by
                    have h1:=(bI _ _ _ _ HO.out.1.1.2.2 hb).1;have h2:=(HO.out.2.2.below hb).1.2;have h3:=(hn2.below (aB HO.out.1.1.1 hb)).1;exact ⟨h1,h2,h3⟩
                   obtain ⟨c0,c1,c2,c3,c4,c5,c6,c7⟩:=HCL.out wp HBP.out;obtain ⟨f0,f1,f2,f3,f4,f5,f6,f7⟩:=HCL.out (wp.alloc (.cells #[.string ⟨#[]⟩,.int .i64 0,.int .i64 0,.int .i64 0,.slice none 0 0,.slice none 0 0] 60)) (aB HBP.out (aF _ _));have HHO:=aA HO.out;have HPB:Hid (BxP wp w28.heap.size L[k].pk.nm L[k].pk.a L[k].pk.b L[k].pk.c (.slice x1 L[k].pk.d.length z1) (.slice x2 L[k].pk.p.length z2) (.slice x3 L[k].pk.o.length z3)):=by rw [hwp];exact BxP.new rfl _ _ _ _ _ _ _
                   clear HO HK hwp hb1
                   go_region_held3 (fun w'=>(w'.cell? ⟨w.heap.size+1,0,none⟩=some (.slice (some ⟨gg,go,none⟩) G.length gc)∧w'.cell? ⟨eg,eo+j*2+1,none⟩=some (.int .i64 e.to)∧w'.cell? ⟨gg,go+yt*6,none⟩=some (.string G[yt].nm)∧w'.cell? ⟨gg,go+yt*6+1,none⟩=some (.int .i64 G[yt].a)∧w'.cell? ⟨gg,go+yt*6+2,none⟩=some (.int .i64 G[yt].b)∧w'.cell? ⟨gg,go+yt*6+3,none⟩=some (.int .i64 G[yt].c)∧w'.cell? ⟨gg,go+yt*6+4,none⟩=some (.slice y1 G[yt].cx.length k1)∧w'.cell? ⟨gg,go+yt*6+5,none⟩=some (.slice y2 G[yt].ed.length k2))) (go_keep) (fail)
                   all_goals go_wp2_with fail
                   clear c0 c1 c2 c3 c4 c5 c6 c7 f0 f1 f2 f3 f4 f5 f6 f7;have HMK:=aA (HIN.out.each k hmk);have HBW:Hid (Below w28.heap.size w28 (wp.alloc (.cells #[.string G[yt].nm,.int .i64 G[yt].a,.int .i64 G[yt].b,.int .i64 G[yt].c,.slice y1 G[yt].cx.length k1,.slice y2 G[yt].ed.length k2] 60)).drew):=aB HBP.out (aF _ _).drew;have H2:=aA (HN2.out k rfl hkL);have H3:=aA (fun h=>HN3.out k rfl hkL h hmk);have H4:=aA (fun h=>HN4.out k rfl hkL h hmk);have H5:=aA (fun h=>HN5.out k rfl hkL h hmk);have HMS:Hid (∀ w1,StQ w (.slice (some ⟨tg,tf,none⟩) L.length tc) (.slice (some ⟨gg,go,none⟩) G.length gc) g cm q c st w1→InI w1 g k st.m[k]):=fun w1 h=>h.node hmk
                   have HIV:Hid (st.m[k]<0→MInv L G ⟨st.m.set k e.to,st.q++[k]⟩):=fun h=>HIN.out.set hmk h hej.1 hej.2
                   have hkm:=hmk;have HIB:Hid (eB L[k] G[yt]=(eqB L[k].pk.nm G[yt].nm&&(decide (L[k].pk.a=G[yt].a)&&decide (L[k].pk.b=G[yt].b)&&decide (L[k].pk.c=G[yt].c)))):=rfl;have hv:=UV L[k].pk.a L[k].pk.b L[k].pk.c G[yt].a G[yt].b G[yt].c;have hgd:=iX;have HNB:Hid (BxNq (wp.alloc (.cells #[.string G[yt].nm,.int .i64 G[yt].a,.int .i64 G[yt].b,.int .i64 G[yt].c,.slice y1 G[yt].cx.length k1,.slice y2 G[yt].ed.length k2] 60)) wp.heap.size G[yt].nm G[yt].a G[yt].b G[yt].c (.slice y1 G[yt].cx.length k1) (.slice y2 G[yt].ed.length k2)):=BxNq.new _ _ _ _ _ _ _;generalize eB L[k] G[yt]=ib at*;clear HN1 HN2 HN3 HN4 HN5 HL hn2 hdk HCL;generalize L[k]=dk at*;generalize G[yt]=n2 at*;generalize st.m[k]=xm at*;have HGZ2:Hid (w28.heap.size≤wp.heap.size∧g<w28.heap.size∧q<w28.heap.size):=⟨HBP.out.size,(World.ownsRow.lt HHO.out.1.2.1.1 g rfl).2,(World.ownsRow.lt HHO.out.1.2.1.2 q rfl).2⟩
                   have HK:Hid (KeepP fun w1=>StQ w (.slice (some ⟨tg,tf,none⟩) L.length tc) (.slice (some ⟨gg,go,none⟩) G.length gc) g cm q c st w1∧(InI w1 g k xm∧EgIn w1 eg (eo+j*2) e)∧BxP w1 w28.heap.size dk.pk.nm dk.pk.a dk.pk.b dk.pk.c (.slice x1 dk.pk.d.length z1) (.slice x2 dk.pk.p.length z2) (.slice x3 dk.pk.o.length z3)∧BxNq w1 wp.heap.size n2.nm n2.a n2.b n2.c (.slice y1 n2.cx.length k1) (.slice y2 n2.ed.length k2)):=(mX _ _ _ _ _ _ _ _).and (((dM _ _ _).and (vT _ _ _)).and ((bZ _ _ _ _ _ _ _ _).and (zY _ _ _ _ _ _ _)))
                   have HO:Hid (StQ w (.slice (some ⟨tg,tf,none⟩) L.length tc) (.slice (some ⟨gg,go,none⟩) G.length gc) g cm q c st (wp.alloc (.cells #[.string n2.nm,.int .i64 n2.a,.int .i64 n2.b,.int .i64 n2.c,.slice y1 n2.cx.length k1,.slice y2 n2.ed.length k2] 60)).drew∧(InI (wp.alloc (.cells #[.string n2.nm,.int .i64 n2.a,.int .i64 n2.b,.int .i64 n2.c,.slice y1 n2.cx.length k1,.slice y2 n2.ed.length k2] 60)).drew g k xm∧EgIn (wp.alloc (.cells #[.string n2.nm,.int .i64 n2.a,.int .i64 n2.b,.int .i64 n2.c,.slice y1 n2.cx.length k1,.slice y2 n2.ed.length k2] 60)).drew eg (eo+j*2) e)∧BxP (wp.alloc (.cells #[.string n2.nm,.int .i64 n2.a,.int .i64 n2.b,.int .i64 n2.c,.slice y1 n2.cx.length k1,.slice y2 n2.ed.length k2] 60)).drew w28.heap.size dk.pk.nm dk.pk.a dk.pk.b dk.pk.c (.slice x1 dk.pk.d.length z1) (.slice x2 dk.pk.p.length z2) (.slice x3 dk.pk.o.length z3)∧BxNq (wp.alloc (.cells #[.string n2.nm,.int .i64 n2.a,.int .i64 n2.b,.int .i64 n2.c,.slice y1 n2.cx.length k1,.slice y2 n2.ed.length k2] 60)).drew wp.heap.size n2.nm n2.a n2.b n2.c (.slice y1 n2.cx.length k1) (.slice y2 n2.ed.length k2)):=⟨mX _ _ _ _ _ _ _ _ _ _ HHO.out.1 HBW.out,⟨HMS.out _ (mX _ _ _ _ _ _ _ _ _ _ HHO.out.1 HBW.out),vT _ _ _ _ _ HHO.out.2.2 HBW.out⟩,bZ _ _ _ _ _ _ _ _ _ _ HPB.out (aF _ _).drew,(zY _ _ _ _ _ _ _).drew HNB.out⟩
                   clear HPB HNB HBW HBP
                   by_cases hnm:dk.pk.nm=n2.nm
                   · have q1:(dk.pk.nm.toList==n2.nm.toList)=true:=by rw [hnm];simp
                     rw [bC hnm] at HIB;clear hnm;generalize (decide (dk.pk.a=n2.a)&&decide (dk.pk.b=n2.b)&&decide (dk.pk.c=n2.c))=vb at*;cases vb
                     · have HR:=aA (H2.out (by rw [HIB.out];rfl))
                       refine aM HK (by kernel_rfl) (by kernel_rfl) (by first|exact HO.out|exact HK.out.drew HO.out) ?_;intro C HIN HOUT;clear HO
                       repeat
                        (with_reducible refine wpQuiet_step (fun K hK=> ?_)
                         go_simp
                         first
                          |(refine hK _ ?_;clear hK K)
                          |(apply Exists.intro;refine ⟨fun w1 hC=> ?_,hK _ ?_⟩;(focus ((first|(exact rfl)|(obtain ⟨⟨⟨hb1,⟨t0,t1⟩,⟨u0,u1⟩⟩,_,_⟩,⟨⟨n0,n1⟩,⟨⟨e0,e1⟩,e2⟩⟩,⟨a0,a1,a2,a3,a4,a5,a6,a7⟩,⟨⟨m0,m1,m2,m3,m4,m5⟩,mg⟩⟩:=HOUT.out w1 hC;clear hC;go_simp;first|done|exact rfl));done));clear hK K))
                       refine wpQuiet_nil ?_;intro w33 hC;have HO:=aA (HOUT.out _ hC);clear hC HIN HOUT C;obtain ⟨⟨⟨hb1,⟨t0,t1⟩,⟨u0,u1⟩⟩,_,_⟩,⟨⟨n0,n1⟩,⟨⟨e0,e1⟩,e2⟩⟩,⟨a0,a1,a2,a3,a4,a5,a6,a7⟩,⟨⟨m0,m1,m2,m3,m4,m5⟩,mg⟩⟩:=HO.out
                       go_wp2
                       go_ret2;exact HQN2.out HR.out _ HO.out.1.1.1
                     · have hib:ib=true:=by rw [HIB.out];rfl
                       by_cases hx:xm<0
                       · have HR:=aA (H3.out hib hx)
                         have HIV2:=aA (HIV.out hx);have g1:¬ (0≤xm):=by omega
                         have g2:decide (xm≥0)=false:=decide_eq_false (by omega);have g3:decide (xm<0)=true:=decide_eq_true hx;refine aM HK (by kernel_rfl) (by kernel_rfl) (by first|exact HO.out|exact HK.out.drew HO.out) ?_;intro C HIN HOUT;clear HO
                         repeat
                          (with_reducible refine wpQuiet_step (fun K hK=> ?_)
                           go_simp
                           first
                            |(refine hK _ ?_;clear hK K)
                            |(apply Exists.intro;refine ⟨fun w1 hC=> ?_,hK _ ?_⟩;(focus ((first|(exact rfl)|(obtain ⟨⟨⟨hb1,⟨t0,t1⟩,⟨u0,u1⟩⟩,_,_⟩,⟨⟨n0,n1⟩,⟨⟨e0,e1⟩,e2⟩⟩,⟨a0,a1,a2,a3,a4,a5,a6,a7⟩,⟨⟨m0,m1,m2,m3,m4,m5⟩,mg⟩⟩:=HOUT.out w1 hC;clear hC;go_simp;first|done|exact rfl));done));clear hK K))
                         refine wpQuiet_nil ?_;intro w33 hC;have HO:=aA (HOUT.out _ hC);clear hC HIN HOUT C;obtain ⟨⟨⟨hb1,⟨t0,t1⟩,⟨u0,u1⟩⟩,_,_⟩,⟨⟨n0,n1⟩,⟨⟨e0,e1⟩,e2⟩⟩,⟨a0,a1,a2,a3,a4,a5,a6,a7⟩,⟨⟨m0,m1,m2,m3,m4,m5⟩,mg⟩⟩:=HO.out;have HS17:Hid (StQ w (.slice (some ⟨tg,tf,none⟩) L.length tc) (.slice (some ⟨gg,go,none⟩) G.length gc) g cm q c ⟨st.m.set k (yt:Int),st.q⟩ (w33.setCell ⟨g,k,none⟩ (.int .i64 (yt:Int)))):=StQ.put HO.out.1 k (yt:Int);have fz:w33.frozen? ⟨g,k,none⟩=false:=World.ownsRow.frozenAt HO.out.1.2.1.1 k;have hB17:w.heap.size+2≤(w33.setCell ⟨g,k,none⟩ (.int .i64 (yt:Int))).heap.size:=HS17.out.1.2.2.2;have HOW17:Hid ((w33.setCell ⟨g,k,none⟩ (.int .i64 (yt:Int))).ownsRow (w.heap.size+2) 3 1 (.slice (some ⟨q,0,none⟩) st.q.length c) st.q.length (lH st.q)):=HS17.out.2.1.2;clear HO HK
                         go_wp2_with (at_builtin;refine vA (B:=w.heap.size+2) (wx:=w33.setCell ⟨g,k,none⟩ (.int .i64 (yt:Int))) (x:=(k:Int)) (v:= .slice (some ⟨q,0,none⟩) st.q.length c) (n:=st.q.length) rfl (.tmp 172) (.tmp 174) rfl rfl HOW17.out hB17 (by simp) rfl (by omega) ?_;intro v20 w20 ho hgr hat;obtain ⟨q2,c2,rfl,hs20⟩:=StQ.app HS17.out k ho (iN (aF _ _) hgr) hat;have HS20:=aA hs20;clear ho hgr hat hs20)
                         have HSQ2:Hid ((st.q++[k])[i]? =some r):=by unfold Hid;rw [List.getElem?_append_left hiq];exact HSQ.out
                         rw [hyt] at HR HIV2;exact ⟨⟨⟨st.m.set k (yt:Int),st.q++[k]⟩,j+1,q2,c2,HIV2.out,by omega,HSQ2.out,by go_num,(by show _=Value.slice _ (st.q++[k]).length _;rw [List.length_append];rfl),HS20.out,HR.out⟩,by simp [intOf];omega⟩
                       · have g1:0≤xm:=by omega
                         have g2:decide (xm≥0)=true:=decide_eq_true g1;have g3:decide (xm<0)=false:=decide_eq_false hx
                         by_cases hxe:xm=e.to
                         · have HR:=aA (H5.out hib (by omega) hxe)
                           subst hxe;refine aM HK (by kernel_rfl) (by kernel_rfl) (by first|exact HO.out|exact HK.out.drew HO.out) ?_;intro C HIN HOUT;clear HO
                           repeat
                            (with_reducible refine wpQuiet_step (fun K hK=> ?_)
                             go_simp
                             first
                              |(refine hK _ ?_;clear hK K)
                              |(apply Exists.intro;refine ⟨fun w1 hC=> ?_,hK _ ?_⟩;(focus ((first|(exact rfl)|(obtain ⟨⟨⟨hb1,⟨t0,t1⟩,⟨u0,u1⟩⟩,_,_⟩,⟨⟨n0,n1⟩,⟨⟨e0,e1⟩,e2⟩⟩,⟨a0,a1,a2,a3,a4,a5,a6,a7⟩,⟨⟨m0,m1,m2,m3,m4,m5⟩,mg⟩⟩:=HOUT.out w1 hC;clear hC;go_simp;first|done|exact rfl));done));clear hK K))
                           refine wpQuiet_nil ?_;intro w33 hC;have HO:=aA (HOUT.out _ hC);clear hC HIN HOUT C;obtain ⟨⟨⟨hb1,⟨t0,t1⟩,⟨u0,u1⟩⟩,_,_⟩,⟨⟨n0,n1⟩,⟨⟨e0,e1⟩,e2⟩⟩,⟨a0,a1,a2,a3,a4,a5,a6,a7⟩,⟨⟨m0,m1,m2,m3,m4,m5⟩,mg⟩⟩:=HO.out
                           go_wp2
                           exact ⟨⟨st,j+1,q,c,HIN.out,by omega,HSQ.out,by go_num,rfl,HO.out.1,HR.out⟩,by simp [intOf];omega⟩
                         · have HR:=aA (H4.out hib (by omega) hxe)
                           have hxb:(xm==(yt:Int))=false:=by rw [beq_eq_false_iff_ne,←hyt];exact hxe
                           have hxc:(xm != (yt:Int))=true:=by rw [bne,hxb];rfl
                           refine aM HK (by kernel_rfl) (by kernel_rfl) (by first|exact HO.out|exact HK.out.drew HO.out) ?_;intro C HIN HOUT;clear HO
                           repeat
                            (with_reducible refine wpQuiet_step (fun K hK=> ?_)
                             go_simp
                             first
                              |(refine hK _ ?_;clear hK K)
                              |(apply Exists.intro;refine ⟨fun w1 hC=> ?_,hK _ ?_⟩;(focus ((first|(exact rfl)|(obtain ⟨⟨⟨hb1,⟨t0,t1⟩,⟨u0,u1⟩⟩,_,_⟩,⟨⟨n0,n1⟩,⟨⟨e0,e1⟩,e2⟩⟩,⟨a0,a1,a2,a3,a4,a5,a6,a7⟩,⟨⟨m0,m1,m2,m3,m4,m5⟩,mg⟩⟩:=HOUT.out w1 hC;clear hC;go_simp;first|done|exact rfl));done));clear hK K))
                           refine wpQuiet_nil ?_;intro w33 hC;have HO:=aA (HOUT.out _ hC);clear hC HIN HOUT C;obtain ⟨⟨⟨hb1,⟨t0,t1⟩,⟨u0,u1⟩⟩,_,_⟩,⟨⟨n0,n1⟩,⟨⟨e0,e1⟩,e2⟩⟩,⟨a0,a1,a2,a3,a4,a5,a6,a7⟩,⟨⟨m0,m1,m2,m3,m4,m5⟩,mg⟩⟩:=HO.out
                           go_wp2
                           go_ret2;exact HQN2.out HR.out _ HO.out.1.1.1
                   · have q1:(dk.pk.nm.toList==n2.nm.toList)=false:=by rw [beq_eq_false_iff_ne];exact fun e=>hnm (bB e)
                     have HR:=aA (H2.out (by rw [HIB.out,bX hnm];rfl));clear hnm;generalize (decide (dk.pk.a=n2.a)&&decide (dk.pk.b=n2.b)&&decide (dk.pk.c=n2.c))=vb at*;refine aM HK (by kernel_rfl) (by kernel_rfl) (by first|exact HO.out|exact HK.out.drew HO.out) ?_;intro C HIN HOUT;clear HO
                     repeat
                      (with_reducible refine wpQuiet_step (fun K hK=> ?_)
                       go_simp
                       first
                        |(refine hK _ ?_;clear hK K)
                        |(apply Exists.intro;refine ⟨fun w1 hC=> ?_,hK _ ?_⟩;(focus ((first|(exact rfl)|(obtain ⟨⟨⟨hb1,⟨t0,t1⟩,⟨u0,u1⟩⟩,_,_⟩,⟨⟨n0,n1⟩,⟨⟨e0,e1⟩,e2⟩⟩,⟨a0,a1,a2,a3,a4,a5,a6,a7⟩,⟨⟨m0,m1,m2,m3,m4,m5⟩,mg⟩⟩:=HOUT.out w1 hC;clear hC;go_simp;first|done|exact rfl));done));clear hK K))
                     refine wpQuiet_nil ?_;intro w33 hC;have HO:=aA (HOUT.out _ hC);clear hC HIN HOUT C;obtain ⟨⟨⟨hb1,⟨t0,t1⟩,⟨u0,u1⟩⟩,_,_⟩,⟨⟨n0,n1⟩,⟨⟨e0,e1⟩,e2⟩⟩,⟨a0,a1,a2,a3,a4,a5,a6,a7⟩,⟨⟨m0,m1,m2,m3,m4,m5⟩,mg⟩⟩:=HO.out
                     go_wp2
                     go_ret2;exact HQN2.out HR.out _ HO.out.1.1.1
               · obtain rfl:j=nd.ed.length:=by omega
                 have HR:Hid (dW L G=hF L G (L.length+1 - (i+1)) (i+1) st):=by
                  unfold Hid;rw [HRUN.out,List.drop_length,show L.length+1 - (i+1)=L.length - i by omega];rfl
                 have HS1:=aA hst;clear hst hrun hsq hinv
                 go_wp2
                 exact ⟨⟨st,i+1,q,c,HIN.out,hiq,by go_num,rfl,HS1.out,HR.out⟩,by simp [intOf];omega⟩
            · obtain rfl:i=st.q.length:=by omega
              have HR:Hid (dW L G=some st.m):=by
               unfold Hid;rw [HRUN.out,show L.length+1 - st.q.length=(L.length - st.q.length)+1 by omega];exact vC (List.getElem?_eq_none (Nat.le_refl _))
              have HOI:Hid (OwnI wa w.heap.size (.slice (some ⟨g,0,none⟩) L.length cm) st.m):=by
               have h:=hst.2.1.1;rw [hinv.len] at h;unfold Hid OwnI;rw [hinv.len];exact cP h (by omega)
              have HBE:=aA hst.1.1;clear hst hrun hinv
              go_wp2
              go_ret2;exact HQY2.out _ _ _ HR.out HOI.out HBE.out
theorem KN:fJ [[],[],[]]=true:=by
 unfold fJ;refine @decide_eq_true _ (Classical.propDecidable _) ?_;have h:fR [[],[],[]]=[]:=rfl;rw [h];exact List.nodup_nil
end Go.Proofs.YtlmpiohbmlddiaaGreatDoor
