/- Gp3, Gd1, Gd2, Gl5: their declarations that are needed, laid in one text, remarks and blanks left out. -/
import Derived.Test.YtbhpfedjilkelaaGreatDoorMg15
namespace Go.Proofs.YtbhpfedjilkelaaGreatDoor
open Go.Shelf Go.RowKit Go.Lib Go.Sort Go.Maps Go.WideMaps
set_option maxRecDepth 100000
def dqr:Pn→List Pn→List Pn
 |_,[]=>[]
 |p,y::r=>if cE y p=true then dqr y r else y::dqr y r
def dq:List Pn→List Pn
 |[]=>[]
 |x::r=>x::dqr x r
theorem lP {ts:List Pn} (h:ts.length<2):dq ts=ts:=by
 match ts,h with
 |[],_=>rfl
 |[x],_=>rfl
 |_::_::_,h=>simp at h;omega
def bJ (G:List Nd) (k:Nat):List Pn:=((G.take k).drop 1).map bU
theorem nL {G:List Nd} {k:Nat} (hk:k<G.length) (h0:0<k):bJ G (k+1)=bJ G k++[bU G[k]]:=by
 unfold bJ;rw [List.take_succ_eq_append_getElem hk,List.drop_append_of_le_length (by rw [List.length_take];omega),List.map_append];rfl
theorem iK (G:List Nd) (k:Nat):(bJ G k).length≤k - 1:=by
 unfold bJ;rw [List.length_map,List.length_drop,List.length_take];omega
def vI (w:World) (n:Nat):Prop:=∀ w1 B v ts,w.heap.size≤B→B≤w1.heap.size→OwnPn w1 B v ts→ts.length≤n - 1→Calls Tryz.prog 77 #[v] w1 fun e w'=>∃ v',e= .returned v'∧OwnPn w' B v' (dq ts)∧Below B w1 w'
def wU (w:World) (G:List Nd) (e:Ending) (w':World):Prop:=∃ v us,e= .returned v∧(us.Perm (bJ G G.length)∧us.Pairwise fun x y=>ltQ y x=false)∧OwnPn w' w.heap.size v (dq us)∧Below w.heap.size w w'
theorem OwnPn.belowG {w w':World} {B:Nat} {v:Value} {l:List Pn} (h:OwnPn w B v l) (hb:Below w.heap.size w w'):OwnPn w' B v l:=cR h hb
theorem OwnPn.lenG {w:World} {B:Nat} {v:Value} {l:List Pn} (h:OwnPn w B v l):∃ ad cap,v= .slice ad l.length cap:=by
 rcases h.2 with ⟨rfl,hn⟩|⟨g,cap,cur,rfl,_⟩
 · exact ⟨none,0,by rw [hn]⟩
 · exact ⟨_,cap,rfl⟩
theorem nM (p:Pn):∀ u ∈ bT p,u.oneCell'=true:=fun u hu=>by
 simp [bT] at hu
 rcases hu with rfl|rfl|rfl|rfl<;>rfl
theorem wH (l:List Pn):∀ x ∈ dq l,x ∈ l:=by
 have h:∀ (r:List Pn) (p x:Pn),x ∈ dqr p r→x ∈ r:=fun r=>by
  induction r with
  |nil=>intro p x hx;cases hx
  |cons y r ih=>
   intro p x hx;unfold dqr at hx
   split at hx
   · exact List.mem_cons_of_mem _ (ih _ _ hx)
   · rcases List.mem_cons.1 hx with rfl|hx
     · exact List.mem_cons_self
     · exact List.mem_cons_of_mem _ (ih _ _ hx)
 cases l with
 |nil=>intro x hx;cases hx
 |cons y r=>
  intro x hx
  rcases List.mem_cons.1 hx with rfl|hx
  · exact List.mem_cons_self
  · exact List.mem_cons_of_mem _ (h r y x hx)
set_option maxHeartbeats 12800000 in
theorem tC {G:List Nd} {v:Value} {w:World} (hG:NodesAt w v G) (hB:GrB G) (hN:∀ n ∈ G,n.nm.size≤281474976710656) (hzp:G.length≤1000000000000) (hcm:vI w G.length):
 Calls Tryz.prog 35 #[.agg #[v]] w fun e w'=>wU w G e w':=by
 obtain ⟨ad,cap,rfl,hcap,hl⟩:=hG
 have HEL:Hid (∀ k (h:k<G.length),∃ g o,ad=some ⟨g,o,none⟩∧∃ vc ve,NdIn w g (o+k*6) G[k] vc ve):=fun k hk=>by
  rcases hl with e|⟨g,o,e,_,hs⟩
  · rw [e] at hk;cases hk
  · exact ⟨g,o,e,hs k hk⟩
 have HN:=aA hN;have HCM:=aA hcm;have HB0:Hid (Below w.heap.size w (w.alloc (.cells #[.slice ad G.length cap] 55))):=aD _ _;have HPO:=aA (fun (n:Nd) (vc ve:Value) (h1:∃ ad n cap,vc= .slice ad n cap) (h2:∃ ad n cap,ve= .slice ad n cap) (w1:World)=>eT (s:=n.nm) (a:=n.a) (b:=n.b) (c:=n.c) (w:=w1) h1 h2);have HSO:=aA (fun (w1:World) (v1:Value) (V:List Pn) (h1:OwnPn w1 w.heap.size v1 V) (h2:V.length≤100000000000000)=>qL h1 h2);have HSC:Hid (∀ (s:ByteArray) (W:World),s.size≤281474976710656→Calls Tryz.prog 78 #[.string s] W fun e w'=>e= .returned (.string s)∧Below W.heap.size W w'):=fun s W hs=>eI s hs W
 have hgl:=hB.1.1;clear hl hN hB hcm
 go_enter Tryz.func35,Tryz.ntmps35
 go_wp2_with fail
 go_loopw [3,11] (fun v3 vi wr=>∃ (k:Nat) (al:Option Addr) (cl:Nat),k≤G.length∧v3= .slice al (bJ G k).length cl∧vi= .int .i64 k∧OwnPn wr w.heap.size (.slice al (bJ G k).length cl) (bJ G k)∧Below w.heap.size w wr) (fun _ vi _=>G.length - (intOf vi).toNat)
 case atStart=>exact ⟨0,none,0,Nat.zero_le _,rfl,rfl,OwnPn.nil _ _,HB0.out⟩
 case round=>
  clear HB0;obtain ⟨k,al,cl,hk,rfl,rfl,ho,hb⟩:=hrel;have HO:=aA ho;have HB:=aA hb
  by_cases hlt:k<G.length
  · obtain ⟨g,o,rfl,vc,ve,hx⟩:=HEL.out k hlt
    have hx1:=hx.below hb;obtain ⟨av,cv,rfl⟩:=hx.2.1.1.sl;obtain ⟨ae,ce,rfl⟩:=hx.2.1.2.sl;have HPX:Hid (∀ w1,Calls Tryz.prog 74 #[.agg #[.string G[k].nm,.int .i64 G[k].a,.int .i64 G[k].b,.int .i64 G[k].c,.slice av G[k].cx.length cv,.slice ae G[k].ed.length ce]] w1 fun e w'=>e= .returned (.agg #[.string G[k].nm,.int .i64 G[k].a,.int .i64 G[k].b,.int .i64 G[k].c])∧Below w1.heap.size w1 w'):=fun w1=>HPO.out G[k] _ _ ⟨_,_,_,rfl⟩ ⟨_,_,_,rfl⟩ w1
    obtain ⟨⟨x0,x1,x2,x3,x4,x5⟩,_,x6⟩:=hx1;have hkl:(k:Int)<G.length:=by omega
    clear hx
    rcases Nat.eq_zero_or_pos k with h0|h0
    · have hd0:¬ 0<k:=by omega
      have e1:bJ G (k+1)=bJ G k:=by
       subst h0;unfold bJ;cases G with
       |nil=>rfl
       |cons a r=>simp
      have HR:Hid (OwnPn (wr.alloc (.cells #[.string G[k].nm,.int .i64 G[k].a,.int .i64 G[k].b,.int .i64 G[k].c,.slice av G[k].cx.length cv,.slice ae G[k].ed.length ce] 67)) w.heap.size (.slice al (bJ G k).length cl) (bJ G k)):=ho.belowG (aD _ _);have HE1:=aA e1;clear ho hb h0 e1;generalize hS:bJ G k=S at*;generalize G[k]=x at*;generalize x.cx.length=l1 at*;generalize x.ed.length=l2 at*
      go_wp2_with fail
      exact ⟨⟨k+1,al,cl,by omega,by rw [HE1.out],by go_num,by rw [HE1.out];exact HR.out,aB HB.out (aD _ _)⟩,by simp [intOf];omega⟩
    · have hk0:(0:Int)<(k:Int):=by omega
      have HNX:Hid (bJ G (k+1)=bJ G k++[bU G[k]]):=nL hlt h0;have hpl:=iK G k;have HBX:Hid (Below w.heap.size w (wr.alloc (.cells #[.string G[k].nm,.int .i64 G[k].a,.int .i64 G[k].b,.int .i64 G[k].c,.slice av G[k].cx.length cv,.slice ae G[k].ed.length ce] 67))∧OwnPn (wr.alloc (.cells #[.string G[k].nm,.int .i64 G[k].a,.int .i64 G[k].b,.int .i64 G[k].c,.slice av G[k].cx.length cv,.slice ae G[k].ed.length ce] 67)) w.heap.size (.slice al (bJ G k).length cl) (bJ G k)):=⟨aB hb (aD _ _),ho.belowG (aD _ _)⟩;have hnd:bU G[k]=⟨G[k].nm,G[k].a,G[k].b,G[k].c⟩:=rfl;rw [hnd] at HNX;clear hnd ho hb;generalize G[k]=x at*;generalize hS:bJ G k=S at*;generalize x.cx.length=l1 at*;generalize x.ed.length=l2 at*
      go_wp2_with (first
       |(go_at_call 74;refine (HPX.out _).mono ?_;rintro e w1 ⟨rfl,ok⟩;have HB1:Hid (Below w.heap.size w w1∧OwnPn w1 w.heap.size (.slice al S.length cl) S):=⟨aB HBX.out.1 ok,HBX.out.2.belowG ok⟩;have HB2:Hid (Below w.heap.size w (w1.alloc (.cells #[.string x.nm,.int .i64 x.a,.int .i64 x.b,.int .i64 x.c] 80))∧World.ownsRow (w1.alloc (.cells #[.string x.nm,.int .i64 x.a,.int .i64 x.b,.int .i64 x.c] 80)) w.heap.size 80 4 (.slice al S.length cl) S.length (S.flatMap bT)):=⟨aB HB1.out.1 (aD _ _),HB1.out.2.belowG (aD _ _)⟩;have HNW:Hid (∀ j u,(bT ⟨x.nm,x.a,x.b,x.c⟩)[j]? =some u→(w1.alloc (.cells #[.string x.nm,.int .i64 x.a,.int .i64 x.b,.int .i64 x.c] 80)).cell? ((⟨w1.heap.size,0,none⟩:Addr).add j)=some u):=(fun j u hu=>by
          rcases j with _|_|_|_|j<;>simp [bT] at hu<;>subst hu<;>simp [Addr.add]);clear ok)
       |(at_builtin;refine jA (B:=w.heap.size) (n:=S.length) (m:=1) (news:=bT ⟨x.nm,x.a,x.b,x.c⟩) wC Tryz.underlying40 rfl (by decide) rfl _ _ rfl rfl HB2.out.2 HB2.out.1.size rfl rfl HNW.out (nM _) (by omega) (by omega) ?_;intro v1 w2 ho hgr hat;have HO2:Hid (OwnPn w2 w.heap.size v1 (S++[⟨x.nm,x.a,x.b,x.c⟩])∧Below w.heap.size w w2):=(by
          refine ⟨?_,HB2.out.1.grown hgr HB2.out.1.size (fun k hk=>(World.ownsRow.lt HB2.out.2 k hk).1)⟩;unfold OwnPn;rw [List.length_append,List.flatMap_append]
          simpa using ho);obtain ⟨al2,cl2,rfl⟩:=HO2.out.1.lenG;clear ho hgr hat))
      exact ⟨⟨k+1,al2,cl2,by omega,by rw [HNX.out,List.length_append];rfl,by go_num,by rw [HNX.out];exact HO2.out.1,HO2.out.2⟩,by simp [intOf];omega⟩
  · have hke:k=G.length:=by omega
    subst hke;have hpl:=iK G G.length;have hlt2:¬ ((G.length:Int)<(G.length:Int)):=by omega
    have HSX:=aA (HSO.out wr _ _ ho (by omega));clear ho hb;generalize hS:bJ G G.length=S at*
    go_wp2_with (first
     |(go_at_call 75;refine HSX.out.mono ?_;rintro e w1 ⟨rfl,us,hp,hs,ho1,hg1⟩;have HP1:=aA hp;have HS1:=aA hs;have hul:=hp.length_eq;have HO1:Hid (OwnPn w1 w.heap.size (.slice al us.length cl) us∧Below w.heap.size w w1):=(by
        refine ⟨by rw [←hul] at ho1;exact ho1,HB.out.grown hg1 HB.out.size (fun k hk=>(World.ownsRow.lt HO.out k hk).1)⟩);have HCX:=aA (HCM.out w1 w.heap.size _ us (Nat.le_refl _) HO1.out.2.size HO1.out.1 (by omega));rw [hul] at HCX;clear hp hs ho1 hg1)
     |(go_at_call 77;refine HCX.out.mono ?_;rintro e w2 ⟨v2,rfl,ho2,hb2⟩;have HO2:Hid (OwnPn w2 w.heap.size v2 (dq us)∧Below w.heap.size w w2):=⟨ho2,HO1.out.2.trans hb2⟩;obtain ⟨a2,c2,rfl⟩:=ho2.lenG;clear ho2 hb2))
    generalize hD:dq us=D at*
    have HND:Hid (∀ d ∈ D,d.nm.size≤281474976710656):=fun d hd=>by
     rw [←hD] at hd;have h1:=HP1.out.mem_iff.1 (wH us d hd);rw [←hS] at h1;unfold bJ at h1;obtain ⟨x,hx,rfl⟩:=List.mem_map.1 h1;exact HN.out x (List.mem_of_mem_take (List.mem_of_mem_drop hx))
    have hDl:D.length≤1000000000000:=by
     have h1:∀ (r:List Pn) (p:Pn),(dqr p r).length≤r.length:=fun r=>by
      induction r with
      |nil=>intro p;exact Nat.le_refl _
      |cons y r ih=>
       intro p;unfold dqr
       split
       · exact Nat.le_trans (ih y) (Nat.le_succ _)
       · rw [List.length_cons,List.length_cons]
         exact Nat.succ_le_succ (ih y)
     have h2:(dq us).length≤us.length:=by
      cases us with
      |nil=>exact Nat.le_refl _
      |cons y r=>
       show (y::dqr y r).length≤_;rw [List.length_cons,List.length_cons];exact Nat.succ_le_succ (h1 r y)
     rw [hD] at h2;omega
    have HQF:Hid (∀ w',OwnPn w' w.heap.size (.slice a2 D.length c2) D→Below w.heap.size w w'→wU w G (.returned (.slice a2 D.length c2)) w'):=fun w' h1 h2=>⟨_,us,rfl,⟨by rw [hS];exact HP1.out,HS1.out⟩,by rw [hD];exact h1,h2⟩
    clear hD hS HP1 HS1 HSX
    go_loopw [30] (fun vi wq=>∃ i:Nat,i≤D.length∧vi= .int .i64 i∧OwnPn wq w.heap.size (.slice a2 D.length c2) D∧Below w.heap.size w wq) (fun vi _=>D.length - (intOf vi).toNat)
    case atStart=>exact ⟨0,Nat.zero_le _,rfl,HO2.out⟩
    case round=>
     clear HO2;obtain ⟨i,hi,rfl,ho,hb⟩:=hrel;have HOR:=aA ho;have HBR:=aA hb
     by_cases hil:i<D.length
     · obtain ⟨g2,cap2,hg2,hgl2,hv2,hc2,hpi⟩:=lO ho i hil
       cases hv2;have hsz:=HND.out _ (List.getElem_mem hil);have HSL:Hid ((D.flatMap bT)[i*4]? =some (.string D[i].nm)):=(lN D i hil).1
       have HFZ:Hid (∀ w3,OwnPn w3 w.heap.size (.slice (some ⟨g2,0,none⟩) D.length c2) D→w3.frozen? ⟨g2,i*4,none⟩=false∧w3.cell? ⟨g2,i*4,none⟩=some (.string D[i].nm)):=fun w3 h3=>by
        obtain ⟨g4,cap4,_,_,hv4,_,⟨q0,_⟩,_⟩:=lO h3 i hil;cases hv4;refine ⟨?_,q0⟩
        rcases h3.2 with ⟨e,_⟩|⟨g',cap',cur,hv,_,hgg,_⟩
        · cases e
        · cases hv
          simp [World.frozen?,hgg]
       have hii:(i:Int)<D.length:=by omega
       have hi0:(0:Int)≤i:=by omega
       have HOB:Hid (OwnPn (wr.alloc (.cells #[.string D[i].nm,.int .i64 D[i].a,.int .i64 D[i].b,.int .i64 D[i].c] 80)) w.heap.size (.slice (some ⟨g2,0,none⟩) D.length c2) D∧Below w.heap.size w (wr.alloc (.cells #[.string D[i].nm,.int .i64 D[i].a,.int .i64 D[i].b,.int .i64 D[i].c] 80))):=⟨ho.belowG (aD _ _),aB hb (aD _ _)⟩
       have HNXT:Hid (∀ w5,OwnPn w5 w.heap.size (.slice (some ⟨g2,0,none⟩) D.length c2) D→Below w.heap.size w w5→OwnPn (w5.setCell ⟨g2,i*4,none⟩ (.string D[i].nm)) w.heap.size (.slice (some ⟨g2,0,none⟩) D.length c2) D∧Below w.heap.size w (w5.setCell ⟨g2,i*4,none⟩ (.string D[i].nm))):=fun w5 h1 h2=>by
        obtain ⟨q1,q2⟩:=World.ownsRow.stored h1 (i*4) (.string D[i].nm);refine ⟨?_,h2.grown q2 h2.size (fun k hk=>by cases hk;exact hg2)⟩
        have e:(D.flatMap bT).set (i*4) (.string D[i].nm)=D.flatMap bT:=by
         obtain ⟨hlt,he⟩:=List.getElem?_eq_some_iff.1 HSL.out;rw [←he];exact List.set_getElem_self hlt
        rw [e] at q1;exact q1
       obtain ⟨⟨p0,p1,p2,p3⟩,p4⟩:=hpi;clear ho hb;generalize D[i]=d at*
       go_wp2_with (go_at_call 78;refine (HSC.out _ _ hsz).mono ?_;rintro e w5 ⟨rfl,ok⟩;have HO5:Hid (OwnPn w5 w.heap.size (.slice (some ⟨g2,0,none⟩) D.length c2) D∧Below w.heap.size w w5):=⟨HOB.out.1.belowG ok,aB HOB.out.2 ok⟩;obtain ⟨f0,k0⟩:=HFZ.out w5 HO5.out.1;clear ok)
       have HF:=aA (HNXT.out w5 HO5.out.1 HO5.out.2);exact ⟨⟨i+1,by omega,by go_num,HF.out.1,HF.out.2⟩,by simp [intOf];omega⟩
     · have hie:i=D.length:=by omega
       subst hie;have HF:=aA (HQF.out wr ho hb);clear ho hb
       go_wp2
       go_ret;exact HF.out
end Go.Proofs.YtbhpfedjilkelaaGreatDoor
namespace Go.Proofs.YtbhpfedjilkelaaGreatDoor
open Go.RowKit
set_option maxRecDepth 100000
set_option maxHeartbeats 1600000 in
theorem nN (A B:List Pn) (hAB:A.length=B.length) (hsz:A.length≤9223372036854775807) (ga oa ca gb ob cb:Nat) (w:World) (hla:∀ i (h:i<A.length),PnIn w ga (oa+i*4) A[i]) (hlb:∀ i (h:i<B.length),PnIn w gb (ob+i*4) B[i]):
 Calls Tryz.prog 123 #[.slice (some ⟨ga,oa,none⟩) A.length ca,.slice (some ⟨gb,ob,none⟩) B.length cb] w fun e w'=>e= .returned (.bool (eqB A B))∧Below w.heap.size w w':=by
 have HL:Hid (∀ w1,Below w.heap.size w w1→∀ i (h:i<A.length) (h2:i<B.length),PnIn w1 ga (oa+i*4) A[i]∧PnIn w1 gb (ob+i*4) B[i]):=fun w1 hb i hi hi2=>⟨(hla i hi).below hb,(hlb i hi2).below hb⟩
 have HAB:=aA hAB;clear hla hlb;rw [←hAB];clear hAB
 go_enter Tryz.func123,Tryz.ntmps123
 go_wp2_with fail
 go_loopw [5] (fun i wr=>∃ k:Nat,k≤A.length∧i= .int .i64 k∧Below w.heap.size w wr∧∀ j (h:j<k) (h1:j<A.length) (h2:j<B.length),A[j]=B[j]) (fun i _=>A.length - (intOf i).toNat)
 case atStart=>exact ⟨0,Nat.zero_le _,rfl,Below.refl _ _,fun j h=>by omega⟩
 case round=>
  obtain ⟨k,hk,rfl,hb,hall⟩:=hrel;have HALL:=aA hall;have HB:=aA hb;clear hall
  by_cases hlt:k<A.length
  · have hltB:k<B.length:=HAB.out ▸ hlt
    have HO:Hid (Below w.heap.size w wr∧PnIn wr ga (oa+k*4) A[k]∧PnIn wr gb (ob+k*4) B[k]):=⟨hb,HL.out wr hb k hlt hltB⟩;have HK:Hid (KeepP fun w1=>Below w.heap.size w w1∧PnIn w1 ga (oa+k*4) A[k]∧PnIn w1 gb (ob+k*4) B[k]):=(aO w).and ((fJ _ _ _).and (fJ _ _ _));have HNE:Hid (cE A[k] B[k]=false→eqB A B=false):=fun h=>bX fun e=>by subst e;rw [cQ.2 rfl] at h;cases h
    have HST:Hid (cE A[k] B[k]=true→∀ j (h:j<k+1) (h1:j<A.length) (h2:j<B.length),A[j]=B[j]):=fun h j hj h1 h2=>by
     rcases Nat.lt_or_ge j k with hjk|hjk
     · exact HALL.out j hjk h1 h2
     · obtain rfl:j=k:=by omega
       exact cQ.1 h
    have he:=vE A[k] B[k];generalize A[k]=s at*;generalize B[k]=t at*;have hgd:=iP;cases hq:cE s t
    · have HR:=aA (HNE.out hq)
      rw [hq] at he;clear hb HNE HST HALL
      go_wp2_with fail
      refine bE HK (by kernel_rfl) (by kernel_rfl) (by first|exact HO.out|exact HK.out.drew HO.out) ?_;intro C HIN HOUT;clear HO
      repeat
       (with_reducible refine wpQuiet_step (fun K hK=> ?_)
        go_simp
        first
         |(refine hK _ ?_;clear hK K)
         |(apply Exists.intro;refine ⟨fun w1 hC=> ?_,hK _ ?_⟩;(focus ((first|(exact rfl)|(obtain ⟨hb1,⟨⟨p0,p1,p2,p3⟩,p6⟩,⟨⟨q0,q1,q2,q3⟩,q6⟩⟩:=HOUT.out w1 hC;clear hC;go_simp;first|done|exact rfl));done));clear hK K))
      refine wpQuiet_nil ?_;intro wn hC;have HO:=aA (HOUT.out _ hC);clear hC HIN HOUT C;obtain ⟨hb1,⟨⟨p0,p1,p2,p3⟩,p6⟩,⟨⟨q0,q1,q2,q3⟩,q6⟩⟩:=HO.out
      go_wp2
      go_ret;exact ⟨aC HR.out.symm,HO.out.1⟩
    · have HR:=aA (HST.out hq)
      rw [hq] at he;clear hb HNE HST HALL
      go_wp2_with fail
      refine bE HK (by kernel_rfl) (by kernel_rfl) (by first|exact HO.out|exact HK.out.drew HO.out) ?_;intro C HIN HOUT;clear HO
      repeat
       (with_reducible refine wpQuiet_step (fun K hK=> ?_)
        go_simp
        first
         |(refine hK _ ?_;clear hK K)
         |(apply Exists.intro;refine ⟨fun w1 hC=> ?_,hK _ ?_⟩;(focus ((first|(exact rfl)|(obtain ⟨hb1,⟨⟨p0,p1,p2,p3⟩,p6⟩,⟨⟨q0,q1,q2,q3⟩,q6⟩⟩:=HOUT.out w1 hC;clear hC;go_simp;first|done|exact rfl));done));clear hK K))
      refine wpQuiet_nil ?_;intro wn hC;have HO:=aA (HOUT.out _ hC);clear hC HIN HOUT C;obtain ⟨hb1,⟨⟨p0,p1,p2,p3⟩,p6⟩,⟨⟨q0,q1,q2,q3⟩,q6⟩⟩:=HO.out
      go_wp2
      exact ⟨⟨k+1,by omega,by go_num,HO.out.1,HR.out⟩,by simp [intOf];omega⟩
  · have hke:k=A.length:=by omega
    subst hke;have HR:Hid (eqB A B=true):=aL (List.ext_getElem HAB.out fun j h1 h2=>HALL.out j h1 h1 h2);clear hb
    go_wp2
    go_ret;exact ⟨aC HR.out.symm,HB.out⟩
theorem iL (ad bd:Option Addr) (ca cb:Nat) (w:World):
 Calls Tryz.prog 123 #[.slice ad 0 ca,.slice bd 0 cb] w fun e w'=>e= .returned (.bool true)∧Below w.heap.size w w':=by
 go_enter Tryz.func123,Tryz.ntmps123
 go_wp2_with fail
 go_loop [5] (fun i=>i= .int .i64 0) (fun _=>0)
 case atStart=>rfl
 case round=>
  subst hrel
  go_wp2
  go_ret;exact ⟨rfl,Below.refl _ _⟩
theorem qM (ad bd:Option Addr) (n m ca cb:Nat) (h:n≠m) (w:World):
 Calls Tryz.prog 123 #[.slice ad n ca,.slice bd m cb] w fun e w'=>e= .returned (.bool false)∧Below w.heap.size w w':=by
 have hn:((n:Int)=(m:Int))=False:=by simp;omega
 go_enter Tryz.func123,Tryz.ntmps123
 go_wp2
 go_ret;exact ⟨rfl,Below.refl _ _⟩
theorem qN {A B:List Pn} {va vb:Value} {w:World} (ha:PinsAt w va A) (hb:PinsAt w vb B) (hsz:A.length≤9223372036854775807):
 Calls Tryz.prog 123 #[va,vb] w fun e w'=>e= .returned (.bool (eqB A B))∧Below w.heap.size w w':=by
 obtain ⟨ad,ca,rfl,_,hl⟩:=ha;obtain ⟨bd,cb,rfl,_,hm⟩:=hb
 by_cases hn:A.length=B.length
 · rcases hl with rfl|⟨ga,oa,rfl,hga,hla⟩
   · obtain rfl:B=[]:=List.eq_nil_of_length_eq_zero (by simpa using hn.symm)
     rw [aL rfl];exact iL _ _ _ _ w
   · rcases hm with rfl|⟨gb,ob,rfl,hgb,hlb⟩
     · obtain rfl:A=[]:=List.eq_nil_of_length_eq_zero (by simpa using hn)
       rw [aL rfl];exact iL _ _ _ _ w
     · exact nN A B hn hsz ga oa ca gb ob cb w hla hlb
 · rw [bX fun e=>hn (by rw [e])]
   exact qM _ _ _ _ _ _ hn w
theorem vA {n m:Nd} (h:n.nm.toList≠m.nm.toList):cE (bU n) (bU m)=false:=by
 unfold cE bU
 simp only
 rw [decide_eq_false h];rfl
theorem vB {n m:Nd} (h:n.nm.toList=m.nm.toList):cE (bU n) (bU m)=(decide (n.a=m.a)&&decide (n.b=m.b)&&decide (n.c=m.c)):=by
 unfold cE bU
 simp only
 rw [decide_eq_true h];rfl
set_option maxHeartbeats 1600000 in
theorem nO {n m:Nd} {vc ve uc ue:Value} {w:World} (hc:PinsAt w vc n.cx) (he:∃ ad k cap,ve= .slice ad k cap) (hd:PinsAt w uc m.cx) (hf:∃ ad k cap,ue= .slice ad k cap) (hz:n.cx.length≤9223372036854775807):
 Calls Tryz.prog 71 #[.agg #[.string n.nm,.int .i64 n.a,.int .i64 n.b,.int .i64 n.c,vc,ve],.agg #[.string m.nm,.int .i64 m.a,.int .i64 m.b,.int .i64 m.c,uc,ue]] w fun e w'=>e= .returned (.bool (bZ n m))∧Below w.heap.size w w':=by
 have HE:Hid (∀ w1,Below w.heap.size w w1→Calls Tryz.prog 123 #[vc,uc] w1 fun x w'=>x= .returned (.bool (eqB n.cx m.cx))∧Below w1.heap.size w1 w'):=fun w1 h=>qN (hc.below h) (hd.below h) hz
 have hv:=wV n.a n.b n.c m.a m.b m.c;have hgd:=fN;have HA:Hid (bZ n m=(cE (bU n) (bU m)&&eqB n.cx m.cx)):=rfl;obtain ⟨ac,cc,rfl⟩:=hc.sl;obtain ⟨uc',cd,rfl⟩:=hd.sl;obtain ⟨ae,ke,ce,rfl⟩:=he;obtain ⟨af,kf,cf,rfl⟩:=hf
 have HO:Hid (Below w.heap.size w ((w.alloc (.cells #[.string n.nm,.int .i64 n.a,.int .i64 n.b,.int .i64 n.c,.slice ac n.cx.length cc,.slice ae ke ce] 67)).alloc (.cells #[.string m.nm,.int .i64 m.a,.int .i64 m.b,.int .i64 m.c,.slice uc' m.cx.length cd,.slice af kf cf] 67))∧BxNd ((w.alloc (.cells #[.string n.nm,.int .i64 n.a,.int .i64 n.b,.int .i64 n.c,.slice ac n.cx.length cc,.slice ae ke ce] 67)).alloc (.cells #[.string m.nm,.int .i64 m.a,.int .i64 m.b,.int .i64 m.c,.slice uc' m.cx.length cd,.slice af kf cf] 67)) w.heap.size n (.slice ac n.cx.length cc) (.slice ae ke ce)∧BxNd ((w.alloc (.cells #[.string n.nm,.int .i64 n.a,.int .i64 n.b,.int .i64 n.c,.slice ac n.cx.length cc,.slice ae ke ce] 67)).alloc (.cells #[.string m.nm,.int .i64 m.a,.int .i64 m.b,.int .i64 m.c,.slice uc' m.cx.length cd,.slice af kf cf] 67)) (w.heap.size+1) m (.slice uc' m.cx.length cd) (.slice af kf cf)):=
  ⟨aT _ _ _,aJ _ _ _ _ _ _ (BxNd.new rfl _ _ _) (aD _ _),BxNd.new (by simp) _ _ _⟩
 by_cases hnm:n.nm.toList=m.nm.toList
 · have HV:=aA (vB hnm)
   generalize bZ n m=ab at*;generalize eqB n.cx m.cx=eb at*;generalize cE (bU n) (bU m)=pb at*;generalize (decide (n.a=m.a)&&decide (n.b=m.b)&&decide (n.c=m.c))=xv at*;clear hc hd hz;generalize n.cx.length=l1 at*;generalize m.cx.length=l2 at*;cases xv
   · have HR:Hid (ab=false):=by unfold Hid;rw [HA.out,HV.out];rfl
     go_enter Tryz.func71,Tryz.ntmps71
     go_wp2_with (go_at_call 123;refine (HE.out _ HO.out.1).mono ?_;rintro x w1 ⟨rfl,ok⟩;have HO1:Hid (Below w.heap.size w w1∧BxNd w1 w.heap.size n (.slice ac l1 cc) (.slice ae ke ce)∧BxNd w1 (w.heap.size+1) m (.slice uc' l2 cd) (.slice af kf cf)):=⟨aB HO.out.1 ok,aJ _ _ _ _ _ _ HO.out.2.1 ok,aJ _ _ _ _ _ _ HO.out.2.2 ok⟩;obtain ⟨_,⟨⟨p0,p1,p2,p3,p4,p5⟩,p6⟩,⟨⟨q0,q1,q2,q3,q4,q5⟩,q6⟩⟩:=HO1.out;clear ok)
     go_ret;exact ⟨aC HR.out.symm,HO1.out.1⟩
   · have HR:Hid (ab=eb):=by unfold Hid;rw [HA.out,HV.out];rfl
     go_enter Tryz.func71,Tryz.ntmps71
     go_wp2_with (go_at_call 123;refine (HE.out _ HO.out.1).mono ?_;rintro x w1 ⟨rfl,ok⟩;have HO1:Hid (Below w.heap.size w w1∧BxNd w1 w.heap.size n (.slice ac l1 cc) (.slice ae ke ce)∧BxNd w1 (w.heap.size+1) m (.slice uc' l2 cd) (.slice af kf cf)):=⟨aB HO.out.1 ok,aJ _ _ _ _ _ _ HO.out.2.1 ok,aJ _ _ _ _ _ _ HO.out.2.2 ok⟩;obtain ⟨_,⟨⟨p0,p1,p2,p3,p4,p5⟩,p6⟩,⟨⟨q0,q1,q2,q3,q4,q5⟩,q6⟩⟩:=HO1.out;clear ok)
     go_ret;exact ⟨aC HR.out.symm,HO1.out.1⟩
 · have HR:Hid (bZ n m=false):=by unfold Hid;rw [HA.out,vA hnm];rfl
   generalize bZ n m=ab at*;generalize eqB n.cx m.cx=eb at*;clear hc hd hz HA;generalize n.cx.length=l1 at*;generalize m.cx.length=l2 at*
   go_enter Tryz.func71,Tryz.ntmps71
   go_wp2_with (go_at_call 123;refine (HE.out _ HO.out.1).mono ?_;rintro x w1 ⟨rfl,ok⟩;have HO1:Hid (Below w.heap.size w w1∧BxNd w1 w.heap.size n (.slice ac l1 cc) (.slice ae ke ce)∧BxNd w1 (w.heap.size+1) m (.slice uc' l2 cd) (.slice af kf cf)):=⟨aB HO.out.1 ok,aJ _ _ _ _ _ _ HO.out.2.1 ok,aJ _ _ _ _ _ _ HO.out.2.2 ok⟩;obtain ⟨_,⟨⟨p0,p1,p2,p3,p4,p5⟩,p6⟩,⟨⟨q0,q1,q2,q3,q4,q5⟩,q6⟩⟩:=HO1.out;clear ok)
   go_ret;exact ⟨aC HR.out.symm,HO1.out.1⟩
def KZ (w:World) (N:Nat) (v u:Value) (x y:Nd) (ve ue:Value) (W:World):Prop:=(Below w.heap.size w W∧BxG W N v∧BxG W (N+1) u)∧EdgesAt W ve x.ed∧EdgesAt W ue y.ed
theorem wI (w:World) (N:Nat) (v u:Value) (x y:Nd) (ve ue:Value):KeepP (KZ w N v u x y ve ue):=fun _ _ ⟨⟨h1,h2,h3⟩,h4,h5⟩ hb=>⟨⟨aB h1 hb,aS _ _ _ _ h2 hb,aS _ _ _ _ h3 hb⟩,h4.below hb,h5.below hb⟩
theorem oG (g o:Nat) (n:Nd) (vc ve:Value):KeepP fun W=>NdIn W g o n vc ve:=fun _ _ h hb=>h.below hb
theorem lQ {W:World} {ad:Option Addr} {n cap:Nat} {L:List Eg} (h:EdgesAt W (.slice ad n cap) L) {m:Nat} (hm:m<L.length):∃ g o,ad=some ⟨g,o,none⟩∧n≤cap∧EgIn W g (o+m*2) L[m]:=by
 obtain ⟨a1,c1,hv,hc,hl⟩:=h;cases hv
 rcases hl with rfl|⟨g,o,rfl,_,hs⟩
 · cases hm
 · exact ⟨g,o,rfl,hc,hs m hm⟩
set_option maxHeartbeats 12800000 in
theorem jN {A C:List Nd} (hAC:A.length=C.length) (hz:A.length≤9223372036854775807) (hzl:∀ n ∈ A,SzN n) {ga oa ca gb ob cb:Nat} {w:World}
 (ha:∀ W,Below w.heap.size w W→∀ i (h:i<A.length),∃ vc ve,NdIn W ga (oa+i*6) A[i] vc ve) (hc:∀ W,Below w.heap.size w W→∀ i (h:i<C.length),∃ vc ve,NdIn W gb (ob+i*6) C[i] vc ve):
 Calls Tryz.prog 37 #[.agg #[.slice (some ⟨ga,oa,none⟩) A.length ca],.agg #[.slice (some ⟨gb,ob,none⟩) A.length cb]] w fun e w'=>e= .returned (.bool (eqB A C))∧Below w.heap.size w w':=by
 have HA:=aA ha;have HC:=aA hc;have HAC:=aA hAC;have HZL:=aA hzl;clear ha hc hAC hzl;have HB0:Hid (Below w.heap.size w ((w.alloc (.cells #[.slice (some ⟨ga,oa,none⟩) A.length ca] 55)).alloc (.cells #[.slice (some ⟨gb,ob,none⟩) A.length cb] 55))∧BxG ((w.alloc (.cells #[.slice (some ⟨ga,oa,none⟩) A.length ca] 55)).alloc (.cells #[.slice (some ⟨gb,ob,none⟩) A.length cb] 55)) w.heap.size (.slice (some ⟨ga,oa,none⟩) A.length ca)∧BxG ((w.alloc (.cells #[.slice (some ⟨ga,oa,none⟩) A.length ca] 55)).alloc (.cells #[.slice (some ⟨gb,ob,none⟩) A.length cb] 55)) (w.heap.size+1) (.slice (some ⟨gb,ob,none⟩) A.length cb)):=⟨aB (aD _ _) (aD _ _),aS _ _ _ _ (BxG.new rfl _) (aD _ _),BxG.new (by simp) _⟩
 go_enter Tryz.func37,Tryz.ntmps37
 go_wp2_with fail
 go_loopw [5] (fun i wr=>∃ k:Nat,k≤A.length∧i= .int .i64 k∧(Below w.heap.size w wr∧BxG wr w.heap.size (.slice (some ⟨ga,oa,none⟩) A.length ca)∧BxG wr (w.heap.size+1) (.slice (some ⟨gb,ob,none⟩) A.length cb))∧∀ j (h:j<k) (h1:j<A.length) (h2:j<C.length),A[j]=C[j]) (fun i _=>A.length - (intOf i).toNat)
 case atStart=>exact ⟨0,Nat.zero_le _,rfl,HB0.out,fun j h=>by omega⟩
 case round=>
  clear HB0;obtain ⟨k,hk,rfl,hb,hall⟩:=hrel;have HALL:=aA hall;have HB:=aA hb;obtain ⟨_,⟨y0,y1⟩,⟨z0,z1⟩⟩:=hb;clear hall
  by_cases hlt:k<A.length
  · have hltC:k<C.length:=HAC.out ▸ hlt
    obtain ⟨vc,ve,hx⟩:=HA.out wr HB.out.1 k hlt;obtain ⟨uc,ue,hy⟩:=HC.out wr HB.out.1 k hltC;have HNE:Hid (A[k]≠C[k]→eqB A C=false):=fun h=>bX fun e=>by subst e;exact h rfl
    have HST:Hid (A[k]=C[k]→∀ j (h:j<k+1) (h1:j<A.length) (h2:j<C.length),A[j]=C[j]):=fun h j hj h1 h2=>by
     rcases Nat.lt_or_ge j k with hjk|hjk
     · exact HALL.out j hjk h1 h2
     · obtain rfl:j=k:=by omega
       exact h
    have hzk:=HZL.out A[k] (List.getElem_mem hlt);clear HALL HA HC HZL;generalize A[k]=x at*;generalize C[k]=y at*;have HAL:Hid (∀ w1,NdIn w1 ga (oa+k*6) x vc ve∧NdIn w1 gb (ob+k*6) y uc ue→Calls Tryz.prog 71 #[.agg #[.string x.nm,.int .i64 x.a,.int .i64 x.b,.int .i64 x.c,vc,ve],.agg #[.string y.nm,.int .i64 y.a,.int .i64 y.b,.int .i64 y.c,uc,ue]] w1 fun e w'=>e= .returned (.bool (bZ x y))∧Below w1.heap.size w1 w'):=fun w1 ⟨h1,h2⟩=>nO h1.2.1.1 (let ⟨ad,cap,h⟩:=h1.2.1.2.sl;⟨ad,_,cap,h⟩) h2.2.1.1 (let ⟨ad,cap,h⟩:=h2.2.1.2.sl;⟨ad,_,cap,h⟩) hzk.1
    have hle:x.ed.length≤9223372036854775807:=hzk.2;clear hzk;obtain ⟨av,cv,rfl⟩:=hx.2.1.1.sl;obtain ⟨ae,ce,rfl⟩:=hx.2.1.2.sl;obtain ⟨bv,dv,rfl⟩:=hy.2.1.1.sl;obtain ⟨be,de,rfl⟩:=hy.2.1.2.sl;have HK:Hid (KeepP fun W=>(Below w.heap.size w W∧BxG W w.heap.size (.slice (some ⟨ga,oa,none⟩) A.length ca)∧BxG W (w.heap.size+1) (.slice (some ⟨gb,ob,none⟩) A.length cb))∧NdIn W ga (oa+k*6) x (.slice av x.cx.length cv) (.slice ae x.ed.length ce)∧NdIn W gb (ob+k*6) y (.slice bv y.cx.length dv) (.slice be y.ed.length de)):=((aO w).and ((aS _ _).and (aS _ _))).and ((oG _ _ _ _ _).and (oG _ _ _ _ _))
    have HO:Hid ((Below w.heap.size w wr∧BxG wr w.heap.size (.slice (some ⟨ga,oa,none⟩) A.length ca)∧BxG wr (w.heap.size+1) (.slice (some ⟨gb,ob,none⟩) A.length cb))∧NdIn wr ga (oa+k*6) x (.slice av x.cx.length cv) (.slice ae x.ed.length ce)∧NdIn wr gb (ob+k*6) y (.slice bv y.cx.length dv) (.slice be y.ed.length de)):=⟨HB.out,hx,hy⟩;obtain ⟨⟨x0,x1,x2,x3,x4,x5⟩,_,x6⟩:=hx;obtain ⟨⟨f0,f1,f2,f3,f4,f5⟩,_,f6⟩:=hy
    have HXY:Hid (bZ x y=true→x.ed=y.ed→x=y):=fun h1 h2=>by
     have q:=nX (n:=x) (m:=y);rw [h1,aL h2] at q;exact fI.1 q.symm
    have HXN:Hid (bZ x y=false→eqB A C=false):=fun h=>HNE.out fun e=>by
     subst e;rw [kD.2 ⟨rfl,rfl⟩] at h;cases h
    have HLN:Hid (x.ed.length≠y.ed.length→eqB A C=false):=fun h=>HNE.out fun e=>h (by rw [e])
    cases hab:bZ x y
    · have HR:=aA (HXN.out hab)
      rw [hab] at HAL;clear hab HXY HXN HLN HNE HST HB;generalize x.ed.length=l1 at*;generalize y.ed.length=l2 at*;generalize x.cx.length=l3 at*;generalize y.cx.length=l4 at*
      go_wp2_with fail
      clear x0 x1 x2 x3 x4 x5 x6 f0 f1 f2 f3 f4 f5 f6 y0 y1 z0 z1;refine bE HK (by kernel_rfl) (by kernel_rfl) (by first|exact HO.out|exact HK.out.drew HO.out) ?_;intro C HIN HOUT;clear HO
      repeat
       (with_reducible refine wpQuiet_step (fun K hK=> ?_)
        go_simp
        first
         |(refine hK _ ?_;clear hK K)
         |(apply Exists.intro;refine ⟨fun w1 hC=> ?_,hK _ ?_⟩;(focus ((first|(go_at_call 71;with_reducible exact dD HIN HOUT HK (fun w1 hk=>HAL.out w1 hk.2) w1 hC)|(exact rfl)|(obtain ⟨⟨hb1,⟨y0,y1⟩,⟨z0,z1⟩⟩,⟨⟨x0,x1,x2,x3,x4,x5⟩,_,x6⟩,⟨⟨f0,f1,f2,f3,f4,f5⟩,_,f6⟩⟩:=HOUT.out w1 hC;clear hC;go_simp;first|done|exact rfl));done));clear hK K))
      refine wpQuiet_nil ?_;intro wn hC;have HO:=aA (HOUT.out _ hC);clear hC HIN HOUT C;obtain ⟨⟨hb1,⟨y0,y1⟩,⟨z0,z1⟩⟩,⟨⟨x0,x1,x2,x3,x4,x5⟩,_,x6⟩,⟨⟨f0,f1,f2,f3,f4,f5⟩,_,f6⟩⟩:=HO.out
      go_wp2
      go_ret;exact ⟨aC HR.out.symm,hb1⟩
    · rw [hab] at HAL
      by_cases hll:x.ed.length=y.ed.length
      · have HXY2:=aA (HXY.out hab)
        have HLE:=aA hll;clear hab HXY HXN HLN;rw [←hll] at HO HK HAL f5;have HKP:=aA (wI w w.heap.size (.slice (some ⟨ga,oa,none⟩) A.length ca) (.slice (some ⟨gb,ob,none⟩) A.length cb) x y (.slice ae x.ed.length ce) (.slice be x.ed.length de));clear hll;generalize hlx:x.ed.length=le at*;have HLX:=aA hlx;clear hlx;generalize x.cx.length=l3 at*;generalize y.cx.length=l4 at*
        go_wp2_with fail
        clear x0 x1 x2 x3 x4 x5 x6 f0 f1 f2 f3 f4 f5 f6 y0 y1 z0 z1;refine bE HK (by kernel_rfl) (by kernel_rfl) (by first|exact HO.out|exact HK.out.drew HO.out) ?_;intro C HIN HOUT;clear HO
        repeat
         (with_reducible refine wpQuiet_step (fun K hK=> ?_)
          go_simp
          first
           |(refine hK _ ?_;clear hK K)
           |(apply Exists.intro;refine ⟨fun w1 hC=> ?_,hK _ ?_⟩;(focus ((first|(go_at_call 71;with_reducible exact dD HIN HOUT HK (fun w1 hk=>HAL.out w1 hk.2) w1 hC)|(exact rfl)|(obtain ⟨⟨hb1,⟨y0,y1⟩,⟨z0,z1⟩⟩,⟨⟨x0,x1,x2,x3,x4,x5⟩,⟨_,hex⟩,x6⟩,⟨⟨f0,f1,f2,f3,f4,f5⟩,⟨_,hey⟩,f6⟩⟩:=HOUT.out w1 hC;clear hC;go_simp;first|done|exact rfl));done));clear hK K))
        refine wpQuiet_nil ?_;intro wn hC;have HO:=aA (HOUT.out _ hC);clear hC HIN HOUT C;obtain ⟨⟨hb1,⟨y0,y1⟩,⟨z0,z1⟩⟩,⟨⟨x0,x1,x2,x3,x4,x5⟩,⟨_,hex⟩,x6⟩,⟨⟨f0,f1,f2,f3,f4,f5⟩,⟨_,hey⟩,f6⟩⟩:=HO.out;have HKX:Hid (KZ w w.heap.size (.slice (some ⟨ga,oa,none⟩) A.length ca) (.slice (some ⟨gb,ob,none⟩) A.length cb) x y (.slice ae le ce) (.slice be le de) wn):=⟨HO.out.1,hex,hey⟩;clear hex hey x0 x1 x2 x3 x4 x5 x6 f0 f1 f2 f3 f4 f5 f6 y0 y1 z0 z1 HO HK HAL HB
        go_wp2_with fail
        go_loopw [9] (fun j wq=>∃ n:Nat,n≤le∧j= .int .i64 n∧KZ w w.heap.size (.slice (some ⟨ga,oa,none⟩) A.length ca) (.slice (some ⟨gb,ob,none⟩) A.length cb) x y (.slice ae le ce) (.slice be le de) wq∧∀ i (h:i<n) (h1:i<x.ed.length) (h2:i<y.ed.length),x.ed[i]=y.ed[i]) (fun j _=>le - (intOf j).toNat)
        case atStart=>exact ⟨0,Nat.zero_le _,rfl,HKX.out,fun i h=>by omega⟩
        case round=>
         clear HKX hb1;obtain ⟨n,hnn,rfl,hkx,heq⟩:=hrel;have HEP:=aA heq;have HKX:=aA hkx;clear heq hkx
         by_cases hml:n<le
         · have hmx:n<x.ed.length:=by have:=HLX.out;omega
           have hmy:n<y.ed.length:=by have:=HLE.out;omega
           obtain ⟨gp,op,rfl,hcp,hpi⟩:=lQ HKX.out.2.1 hmx;obtain ⟨gq,oq,rfl,hcq,hqi⟩:=lQ HKX.out.2.2 hmy;have HPN:Hid (x.ed[n]≠y.ed[n]→eqB A C=false):=fun h=>HNE.out fun e=>h (by subst e;rfl)
           have HPS:Hid (x.ed[n]=y.ed[n]→∀ i (h:i<n+1) (h1:i<x.ed.length) (h2:i<y.ed.length),x.ed[i]=y.ed[i]):=fun h i hi h1 h2=>by
            rcases Nat.lt_or_ge i n with him|him
            · exact HEP.out i him h1 h2
            · obtain rfl:i=n:=by omega
              exact h
           have HO:Hid (KZ w w.heap.size (.slice (some ⟨ga,oa,none⟩) A.length ca) (.slice (some ⟨gb,ob,none⟩) A.length cb) x y (.slice (some ⟨gp,op,none⟩) le ce) (.slice (some ⟨gq,oq,none⟩) le de) wr∧EgIn wr gp (op+n*2) x.ed[n]∧EgIn wr gq (oq+n*2) y.ed[n]):=⟨HKX.out,hpi,hqi⟩;have HK:Hid (KeepP fun W=>KZ w w.heap.size (.slice (some ⟨ga,oa,none⟩) A.length ca) (.slice (some ⟨gb,ob,none⟩) A.length cb) x y (.slice (some ⟨gp,op,none⟩) le ce) (.slice (some ⟨gq,oq,none⟩) le de) W∧EgIn W gp (op+n*2) x.ed[n]∧EgIn W gq (oq+n*2) y.ed[n]):=HKP.out.and ((fK _ _ _).and (fK _ _ _));clear HKX hpi hqi HEP;have hp:=vF x.ed[n] y.ed[n];have hqs:=fY (p:=x.ed[n]) (q:=y.ed[n]);generalize x.ed[n]=p at*;generalize y.ed[n]=q at*;have HQS:=aA hqs;clear hqs;have hgp:=nW;cases hpq:kA p q
           · have HR:=aA (HPN.out fun e=>by rw [HQS.out.2 e] at hpq;cases hpq)
             rw [hpq] at hp;clear HPN HPS hpq HQS
             go_wp2_with fail
             refine bE HK (by kernel_rfl) (by kernel_rfl) (by first|exact HO.out|exact HK.out.drew HO.out) ?_;intro C HIN HOUT;clear HO
             repeat
              (with_reducible refine wpQuiet_step (fun K hK=> ?_)
               go_simp
               first
                |(refine hK _ ?_;clear hK K)
                |(apply Exists.intro;refine ⟨fun w1 hC=> ?_,hK _ ?_⟩;(focus ((first|(exact rfl)|(obtain ⟨_,⟨⟨p0,p1⟩,p4⟩,⟨⟨q0,q1⟩,q4⟩⟩:=HOUT.out w1 hC;clear hC;go_simp;first|done|exact rfl));done));clear hK K))
             refine wpQuiet_nil ?_;intro wn2 hC;have HO:=aA (HOUT.out _ hC);clear hC HIN HOUT C;obtain ⟨_,⟨⟨p0,p1⟩,p4⟩,⟨⟨q0,q1⟩,q4⟩⟩:=HO.out
             go_wp2
             go_ret;exact ⟨aC HR.out.symm,HO.out.1.1.1⟩
           · have HR:=aA (HPS.out (HQS.out.1 hpq))
             rw [hpq] at hp;clear HPN HPS hpq HQS
             go_wp2_with fail
             refine bE HK (by kernel_rfl) (by kernel_rfl) (by first|exact HO.out|exact HK.out.drew HO.out) ?_;intro C HIN HOUT;clear HO
             repeat
              (with_reducible refine wpQuiet_step (fun K hK=> ?_)
               go_simp
               first
                |(refine hK _ ?_;clear hK K)
                |(apply Exists.intro;refine ⟨fun w1 hC=> ?_,hK _ ?_⟩;(focus ((first|(exact rfl)|(obtain ⟨_,⟨⟨p0,p1⟩,p4⟩,⟨⟨q0,q1⟩,q4⟩⟩:=HOUT.out w1 hC;clear hC;go_simp;first|done|exact rfl));done));clear hK K))
             refine wpQuiet_nil ?_;intro wn2 hC;have HO:=aA (HOUT.out _ hC);clear hC HIN HOUT C;obtain ⟨_,⟨⟨p0,p1⟩,p4⟩,⟨⟨q0,q1⟩,q4⟩⟩:=HO.out
             go_wp2
             exact ⟨⟨n+1,by omega,by go_num,HO.out.1,HR.out⟩,by simp [intOf];omega⟩
         · have hme:n=le:=by omega
           subst hme;have HR:Hid (∀ j (h:j<k+1) (h1:j<A.length) (h2:j<C.length),A[j]=C[j]):=HST.out (HXY2.out (List.ext_getElem (HLX.out.trans HLE.out) fun i h1 h2=>HEP.out i (by have:=HLX.out;omega) h1 h2));clear HEP
           go_wp2
           exact ⟨⟨k+1,by omega,by go_num,HKX.out.1,HR.out⟩,by simp [intOf];omega⟩
      · have HR:=aA (HLN.out hll)
        have hln:((x.ed.length:Int)==(y.ed.length:Int))=false:=by simp;omega
        clear hab HXY HXN HLN HNE HST HB hll;generalize x.ed.length=l1 at*;generalize y.ed.length=l2 at*;generalize x.cx.length=l3 at*;generalize y.cx.length=l4 at*
        go_wp2_with fail
        clear x0 x1 x2 x3 x4 x5 x6 f0 f1 f2 f3 f4 f5 f6 y0 y1 z0 z1;refine bE HK (by kernel_rfl) (by kernel_rfl) (by first|exact HO.out|exact HK.out.drew HO.out) ?_;intro C HIN HOUT;clear HO
        repeat
         (with_reducible refine wpQuiet_step (fun K hK=> ?_)
          go_simp
          first
           |(refine hK _ ?_;clear hK K)
           |(apply Exists.intro;refine ⟨fun w1 hC=> ?_,hK _ ?_⟩;(focus ((first|(go_at_call 71;with_reducible exact dD HIN HOUT HK (fun w1 hk=>HAL.out w1 hk.2) w1 hC)|(exact rfl)|(obtain ⟨⟨hb1,⟨y0,y1⟩,⟨z0,z1⟩⟩,⟨⟨x0,x1,x2,x3,x4,x5⟩,_,x6⟩,⟨⟨f0,f1,f2,f3,f4,f5⟩,_,f6⟩⟩:=HOUT.out w1 hC;clear hC;go_simp;first|done|exact rfl));done));clear hK K))
        refine wpQuiet_nil ?_;intro wn hC;have HO:=aA (HOUT.out _ hC);clear hC HIN HOUT C;obtain ⟨⟨hb1,⟨y0,y1⟩,⟨z0,z1⟩⟩,⟨⟨x0,x1,x2,x3,x4,x5⟩,_,x6⟩,⟨⟨f0,f1,f2,f3,f4,f5⟩,_,f6⟩⟩:=HO.out
        go_wp2
        go_ret;exact ⟨aC HR.out.symm,hb1⟩
  · have hke:k=A.length:=by omega
    subst hke;have HR:Hid (eqB A C=true):=aL (List.ext_getElem HAC.out fun j h1 h2=>HALL.out j h1 h1 h2)
    go_wp2
    go_ret;exact ⟨aC HR.out.symm,HB.out.1⟩
theorem lR (ad bd:Option Addr) (n m ca cb:Nat) (h:n≠m) (w:World):
 Calls Tryz.prog 37 #[.agg #[.slice ad n ca],.agg #[.slice bd m cb]] w fun e w'=>e= .returned (.bool false)∧Below w.heap.size w w':=by
 have hn:((n:Int)=(m:Int))=False:=by simp;omega
 have HB:Hid (Below w.heap.size w ((w.alloc (.cells #[.slice ad n ca] 55)).alloc (.cells #[.slice bd m cb] 55))):=aB (aD _ _) (aD _ _)
 go_enter Tryz.func37,Tryz.ntmps37
 go_wp2
 go_ret;exact ⟨rfl,HB.out⟩
theorem fF (ad bd:Option Addr) (ca cb:Nat) (w:World):
 Calls Tryz.prog 37 #[.agg #[.slice ad 0 ca],.agg #[.slice bd 0 cb]] w fun e w'=>e= .returned (.bool true)∧Below w.heap.size w w':=by
 have HB:Hid (Below w.heap.size w ((w.alloc (.cells #[.slice ad 0 ca] 55)).alloc (.cells #[.slice bd 0 cb] 55))∧BxG ((w.alloc (.cells #[.slice ad 0 ca] 55)).alloc (.cells #[.slice bd 0 cb] 55)) w.heap.size (.slice ad 0 ca)):=⟨aB (aD _ _) (aD _ _),aS _ _ _ _ (BxG.new rfl _) (aD _ _)⟩
 go_enter Tryz.func37,Tryz.ntmps37
 go_wp2_with fail
 go_loopw [5] (fun i wr=>i= .int .i64 0∧Below w.heap.size w wr∧BxG wr w.heap.size (.slice ad 0 ca)) (fun _ _=>0)
 case atStart=>exact ⟨rfl,HB.out⟩
 case round=>
  clear HB;obtain ⟨rfl,hb,y0,y1⟩:=hrel;have HB:=aA hb;clear hb
  go_wp2
  go_ret;exact ⟨rfl,HB.out⟩
theorem lS {A C:List Nd} {v u:Value} {w:World} (ha:NodesAt w v A) (hc:NodesAt w u C) (hz:A.length≤9223372036854775807) (hzl:∀ n ∈ A,SzN n):
 Calls Tryz.prog 37 #[.agg #[v],.agg #[u]] w fun e w'=>e= .returned (.bool (eqB A C))∧Below w.heap.size w w':=by
 obtain ⟨ad,ca,rfl,_,hl⟩:=ha;obtain ⟨bd,cb,rfl,_,hm⟩:=hc
 by_cases hn:A.length=C.length
 · rcases hl with rfl|⟨ga,oa,rfl,hga,hla⟩
   · obtain rfl:C=[]:=List.eq_nil_of_length_eq_zero (by simpa using hn.symm)
     rw [aL rfl];exact fF _ _ _ _ _
   · rcases hm with rfl|⟨gb,ob,rfl,hgb,hlb⟩
     · obtain rfl:A=[]:=List.eq_nil_of_length_eq_zero (by simpa using hn)
       rw [aL rfl];exact fF _ _ _ _ _
     · rw [←hn]
       exact jN hn hz hzl (fun W hb i hi=>by obtain ⟨vc,ve,h⟩:=hla i hi;exact ⟨vc,ve,h.below hb⟩) (fun W hb i hi=>by obtain ⟨vc,ve,h⟩:=hlb i hi;exact ⟨vc,ve,h.below hb⟩)
 · rw [bX fun e=>hn (by rw [e])]
   exact lR _ _ _ _ _ _ hn _
end Go.Proofs.YtbhpfedjilkelaaGreatDoor
namespace Go.Proofs.YtbhpfedjilkelaaGreatDoor
open Go.Shelf Go.RowKit Go.Maps Go.WideMaps
set_option maxRecDepth 100000
theorem qO (w:World):vI w 2:=fun w1 B v ts _ hB ho hl=>by
 have HO:=aA ho;have HE:Hid (dq ts=ts):=lP (by omega);obtain ⟨ad,cap,rfl⟩:=ho.lenG;have hl2:(ts.length:Int)<2:=by omega
 have hd:decide ((ts.length:Int)<2)=true:=decide_eq_true hl2;have HQ:Hid (∃ v',Ending.returned (.slice ad ts.length cap)= .returned v'∧OwnPn w1 B v' (dq ts)∧Below B w1 w1):=⟨_,rfl,by rw [HE.out];exact HO.out,Below.refl _ _⟩;clear ho hB hl
 go_enter Tryz.func77,Tryz.ntmps77
 go_wp2
 go_ret;exact HQ.out
def KL (w:World) (B:Nat) (W:World):Prop:=Below w.heap.size w W∧(W.cell? ⟨B+1,0,none⟩=some (.slice (some ⟨B,0,none⟩) 1 1)∧B+1<W.heap.size)∧(W.cell? ⟨B+3,0,none⟩=some (.slice (some ⟨B+2,0,none⟩) 2 2)∧B+3<W.heap.size)∧NdIn W B 0 nd0 (.slice none 0 0) (.slice none 0 0)∧NodesAt W (.slice (some ⟨B,0,none⟩) 1 1) [nd0]∧NodesAt W (.slice (some ⟨B+2,0,none⟩) 2 2) [nd0,nd1]
theorem wJ (w:World) (B:Nat):KeepP (KL w B):=fun _ _ ⟨h1,⟨h2,h3⟩,⟨h4,h5⟩,h6,h7,h8⟩ hb=>
 ⟨aB h1 hb,⟨(hb.cell (p:=⟨B+1,0,none⟩) h3).trans h2,Nat.lt_of_lt_of_le h3 hb.size⟩,⟨(hb.cell (p:=⟨B+3,0,none⟩) h5).trans h4,Nat.lt_of_lt_of_le h5 hb.size⟩,h6.below hb,h7.below hb,h8.below hb⟩
theorem KL.new (w W:World) (hb:Below w.heap.size w W):KL w W.heap.size ((((W.alloc (.cells #[.string ⟨#[]⟩,.int .i64 0,.int .i64 0,.int .i64 0,.slice none 0 0,.slice none 0 0] 67)).alloc (.cells #[.slice (some ⟨W.heap.size,0,none⟩) 1 1] 55)).alloc (.cells #[.string ⟨#[]⟩,.int .i64 0,.int .i64 0,.int .i64 0,.slice none 0 0,.slice none 0 0,.string ⟨#[97]⟩,.int .i64 0,.int .i64 0,.int .i64 0,.slice none 0 0,.slice none 0 0] 67)).alloc (.cells #[.slice (some ⟨W.heap.size+2,0,none⟩) 2 2] 55)):=by
 obtain ⟨Y1,h1⟩:∃ X,X=W.alloc (.cells #[.string ⟨#[]⟩,.int .i64 0,.int .i64 0,.int .i64 0,.slice none 0 0,.slice none 0 0] 67):=⟨_,rfl⟩;have s1:Y1.heap.size=W.heap.size+1:=by rw [h1];simp
 have c1:Y1.cell? ⟨W.heap.size,0,none⟩=some (.string ⟨#[]⟩)∧Y1.cell? ⟨W.heap.size,0+1,none⟩=some (.int .i64 0)∧Y1.cell? ⟨W.heap.size,0+2,none⟩=some (.int .i64 0)∧Y1.cell? ⟨W.heap.size,0+3,none⟩=some (.int .i64 0)∧Y1.cell? ⟨W.heap.size,0+4,none⟩=some (.slice none 0 0)∧Y1.cell? ⟨W.heap.size,0+5,none⟩=some (.slice none 0 0):=by
  rw [h1];refine ⟨?_,?_,?_,?_,?_,?_⟩<;>simp
 have b1:Below w.heap.size w Y1:=by rw [h1];exact aB hb (aD _ _)
 rw [←h1];obtain ⟨Y2,h2⟩:∃ X,X=Y1.alloc (.cells #[.slice (some ⟨W.heap.size,0,none⟩) 1 1] 55):=⟨_,rfl⟩;have s2:Y2.heap.size=W.heap.size+2:=by rw [h2];simp;omega
 have c2:Y2.cell? ⟨W.heap.size+1,0,none⟩=some (.slice (some ⟨W.heap.size,0,none⟩) 1 1):=by rw [h2,←s1];simp
 have b2:Below Y1.heap.size Y1 Y2:=by rw [h2];exact aD _ _
 rw [←h2];obtain ⟨Y3,h3⟩:∃ X,X=Y2.alloc (.cells #[.string ⟨#[]⟩,.int .i64 0,.int .i64 0,.int .i64 0,.slice none 0 0,.slice none 0 0,.string ⟨#[97]⟩,.int .i64 0,.int .i64 0,.int .i64 0,.slice none 0 0,.slice none 0 0] 67):=⟨_,rfl⟩;have s3:Y3.heap.size=W.heap.size+3:=by rw [h3];simp;omega
 have c3:(Y3.cell? ⟨W.heap.size+2,0,none⟩=some (.string ⟨#[]⟩)∧Y3.cell? ⟨W.heap.size+2,0+1,none⟩=some (.int .i64 0)∧Y3.cell? ⟨W.heap.size+2,0+2,none⟩=some (.int .i64 0)∧Y3.cell? ⟨W.heap.size+2,0+3,none⟩=some (.int .i64 0)∧Y3.cell? ⟨W.heap.size+2,0+4,none⟩=some (.slice none 0 0)∧Y3.cell? ⟨W.heap.size+2,0+5,none⟩=some (.slice none 0 0))∧Y3.cell? ⟨W.heap.size+2,6,none⟩=some (.string ⟨#[97]⟩)∧Y3.cell? ⟨W.heap.size+2,6+1,none⟩=some (.int .i64 0)∧Y3.cell? ⟨W.heap.size+2,6+2,none⟩=some (.int .i64 0)∧Y3.cell? ⟨W.heap.size+2,6+3,none⟩=some (.int .i64 0)∧Y3.cell? ⟨W.heap.size+2,6+4,none⟩=some (.slice none 0 0)∧Y3.cell? ⟨W.heap.size+2,6+5,none⟩=some (.slice none 0 0):=by
  rw [h3,←s2];refine ⟨⟨?_,?_,?_,?_,?_,?_⟩,?_,?_,?_,?_,?_,?_⟩<;>simp
 have b3:Below Y2.heap.size Y2 Y3:=by rw [h3];exact aD _ _
 rw [←h3];obtain ⟨Y4,h4⟩:∃ X,X=Y3.alloc (.cells #[.slice (some ⟨W.heap.size+2,0,none⟩) 2 2] 55):=⟨_,rfl⟩;have s4:Y4.heap.size=W.heap.size+4:=by rw [h4];simp;omega
 have c4:Y4.cell? ⟨W.heap.size+3,0,none⟩=some (.slice (some ⟨W.heap.size+2,0,none⟩) 2 2):=by rw [h4,←s3];simp
 have b4:Below Y3.heap.size Y3 Y4:=by rw [h4];exact aD _ _
 rw [←h4];have d1:NdIn Y4 W.heap.size 0 nd0 (.slice none 0 0) (.slice none 0 0):=NdIn.below (NdIn.below (NdIn.below (w:=Y1) ⟨c1,⟨fL _ _ _,eM _ _ _⟩,by omega⟩ b2) b3) b4;have d3:NdIn Y4 (W.heap.size+2) 0 nd0 (.slice none 0 0) (.slice none 0 0):=NdIn.below (w:=Y3) ⟨c3.1,⟨fL _ _ _,eM _ _ _⟩,by omega⟩ b4;have d4:NdIn Y4 (W.heap.size+2) 6 nd1 (.slice none 0 0) (.slice none 0 0):=NdIn.below (w:=Y3) ⟨c3.2,⟨fL _ _ _,eM _ _ _⟩,by omega⟩ b4;refine ⟨aB (aB (aB b1 b2) b3) b4,⟨?_,by omega⟩,⟨c4,by omega⟩,d1,?_,?_⟩
 · exact (b4.cell (p:=⟨W.heap.size+1,0,none⟩) (by show W.heap.size+1<_;omega)).trans ((b3.cell (p:=⟨W.heap.size+1,0,none⟩) (by show W.heap.size+1<_;omega)).trans c2)
 · refine ⟨_,1,rfl,Nat.le_refl _,Or.inr ⟨_,0,rfl,by omega,fun i hi=> ?_⟩⟩
   have:i=0:=by simpa using hi
   subst this;exact ⟨_,_,d1⟩
 · refine ⟨_,2,rfl,Nat.le_refl _,Or.inr ⟨_,0,rfl,by omega,fun i hi=> ?_⟩⟩
   have:i=0∨i=1:=by simp at hi;omega
   rcases this with rfl|rfl
   · exact ⟨_,_,d3⟩
   · exact ⟨_,_,d4⟩
theorem jO (us:List Pn) (h:us.Perm (bJ [nd0,nd1] 2)):(dq us).length=1:=by
 have hl:us.length=1:=h.length_eq;rw [lP (by omega),hl]
theorem iM {P:Nd→Prop} (h0:P nd0) (h1:P nd1):∀ n ∈ [nd0,nd1],P n:=fun n hn=>by
 rcases List.mem_cons.1 hn with rfl|hn
 · exact h0
 · rw [List.mem_singleton.1 hn];exact h1
set_option maxHeartbeats 1000000 in
theorem lT {w:World} (he:Env w) (hf:FL w):
 Calls Tryz.prog 28 #[] w fun e w'=>e= .returned (.bool true)∧Below w.heap.size w w':=by
 have HNW:Hid (Calls Tryz.prog 9 #[] w fun e w'=>∃ a,e= .returned (.pointer (some a))∧Below w.heap.size w w'):=(tY w).mono fun e w' ⟨h1,h2⟩=>⟨_,h1,by rw [h2];exact aT _ _ _⟩
 have HKL0:=aA (fun W h2=>KL.new w W h2);have HKP:=aA (fun B=>wJ w B);have HC1:Hid (∀ B a W,KL w B W→Calls Tryz.prog 26 #[.agg #[.slice (some ⟨B,0,none⟩) 1 1],.pointer (some a),.agg #[.slice none 0 0,.slice none 0 0,.slice none 0 0,.slice none 0 0],.bool true] W fun e w'=>e= .returned (.int .i64 0)∧Below W.heap.size W w'):=fun B a W h=>qK h.2.2.2.1 (Nat.le_refl _) (he.below h.1) (hf.below h.1)
 have HC2:Hid (∀ B a W,KL w B W→Calls Tryz.prog 26 #[.agg #[.slice (some ⟨B+2,0,none⟩) 2 2],.pointer (some a),.agg #[.slice none 0 0,.slice none 0 0,.slice none 0 0,.slice none 0 0],.bool true] W fun e w'=>e= .returned (.int .i64 33)∧Below W.heap.size W w'):=fun B a W h=>nJ (G:=[nd0,nd1]) h.2.2.2.2.2 (he.below h.1) (hf.below h.1) uS uU uY sZ (iM (P:=fun n=>∀ e ∈ n.ed,0≤e.to∧e.to<(([nd0,nd1]:List Nd).length:Int)) (fun e he=>by cases he) (fun e he=>by cases he)) (by rw [uW];decide)
 have HC3:Hid (∀ B W,Calls Tryz.prog 26 #[.agg #[.slice (some ⟨B,0,none⟩) 1 1],.pointer none,.agg #[.slice none 0 0,.slice none 0 0,.slice none 0 0,.slice none 0 0],.bool true] W fun e w'=>e= .returned (.int .i64 1)∧Below W.heap.size W w'):=fun B W=>qJ
 have HPN:Hid (∀ B W,KL w B W→Calls Tryz.prog 35 #[.agg #[.slice (some ⟨B+2,0,none⟩) 2 2]] W fun e w'=>∃ ad c,e= .returned (.slice ad 1 c)∧Below W.heap.size W w'):=fun B W h=>by
  refine (tC (G:=[nd0,nd1]) h.2.2.2.2.2 sZ (iM (P:=fun n=>n.nm.size≤281474976710656) (by decide) (by decide)) (by decide) (qO W)).mono ?_;rintro e w' ⟨v,us,rfl,⟨hp,_⟩,ho,hb⟩;obtain ⟨ad,c,rfl⟩:=ho.lenG;exact ⟨ad,c,by rw [jO us hp],hb⟩
 have HSM:Hid (∀ B W,KL w B W→Calls Tryz.prog 38 #[.agg #[.slice (some ⟨B,0,none⟩) 1 1],.agg #[.slice (some ⟨B,0,none⟩) 1 1]] W fun e w'=>e= .returned (.bool true)∧Below W.heap.size W w'):=fun B W h=>by
  have q:=dR h.2.2.2.2.1 h.2.2.2.2.1 (by decide) jL.2;rw [aL rfl] at q;exact q
 clear he hf
 go_enter Tryz.func28,Tryz.ntmps28
 go_wp2_with (first
  |(go_at_call 9;refine HNW.out.mono ?_;rintro e w1 ⟨a,rfl,ok⟩;have HK0:=aA (HKL0.out w1 ok);obtain ⟨_,⟨k1,_⟩,⟨k3,_⟩,_⟩:=HK0.out;clear ok)
  |(have _t:=HK4;go_at_call 38;refine (HSM.out w1.heap.size _ HK4.out).mono ?_;rintro e w6 ⟨rfl,ok⟩;have HK5:=aA (HKP.out _ _ _ HK4.out ok);clear ok)
  |(have _t:=HK3;go_at_call 35;refine (HPN.out w1.heap.size _ HK3.out).mono ?_;rintro e w5 ⟨ad,c,rfl,ok⟩;have HK4:=aA (HKP.out _ _ _ HK3.out ok);obtain ⟨_,⟨k1,_⟩,⟨k3,_⟩,_⟩:=HK4.out;clear ok)
  |(have _t:=HK2;go_at_call 26;refine (HC3.out w1.heap.size _).mono ?_;rintro e w4 ⟨rfl,ok⟩;have HK3:=aA (HKP.out _ _ _ HK2.out ok);obtain ⟨_,⟨k1,_⟩,⟨k3,_⟩,_⟩:=HK3.out;clear ok)
  |(have _t:=HK1;go_at_call 26;refine (HC2.out w1.heap.size a _ HK1.out).mono ?_;rintro e w3 ⟨rfl,ok⟩;have HK2:=aA (HKP.out _ _ _ HK1.out ok);obtain ⟨_,⟨k1,_⟩,⟨k3,_⟩,_⟩:=HK2.out;clear ok)
  |(have _t:=HK0;go_at_call 26;refine (HC1.out w1.heap.size a _ HK0.out).mono ?_;rintro e w2 ⟨rfl,ok⟩;have HK1:=aA (HKP.out _ _ _ HK0.out ok);obtain ⟨_,⟨k1,_⟩,⟨k3,_⟩,_⟩:=HK1.out;clear ok))
 go_ret;exact ⟨rfl,HK5.out.1⟩
end Go.Proofs.YtbhpfedjilkelaaGreatDoor
