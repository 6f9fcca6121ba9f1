/- Gp3, Gp2, Gp4, Gd1: their declarations that are needed, laid in one text, remarks and blanks left out. -/
import Derived.Lib.SliceRun
import Derived.Test.YtpfemjlhklnfoaaGreatDoorMg08
namespace Go.Proofs.YtpfemjlhklnfoaaGreatDoor
open Go.Shelf Go.RowKit Go.Lib Go.Sort Go.Maps Go.WideMaps
set_option maxRecDepth 100000
def dqr:Pn→List Pn→List Pn
 |_,[]=>[]
 |p,y::r=>if bD y p=true then dqr y r else y::dqr y r
def dq:List Pn→List Pn
 |[]=>[]
 |x::r=>x::dqr x r
theorem iV {ts:List Pn} (h:ts.length<2):dq ts=ts:=by
 match ts,h with
 |[],_=>rfl
 |[x],_=>rfl
 |_::_::_,h=>simp at h;omega
def aR (G:List Nd) (k:Nat):List Pn:=((G.take k).drop 1).map bV
theorem iW {G:List Nd} {k:Nat} (hk:k<G.length) (h0:0<k):aR G (k+1)=aR G k++[bV G[k]]:=by
 unfold aR;rw [List.take_succ_eq_append_getElem hk,List.drop_append_of_le_length (by rw [List.length_take];omega),List.map_append];rfl
theorem eM (G:List Nd) (k:Nat):(aR G k).length≤k - 1:=by
 unfold aR;rw [List.length_map,List.length_drop,List.length_take];omega
def vF (w:World) (n:Nat):Prop:=∀ w1 B v ts,w.heap.size≤B→B≤w1.heap.size→OwnPn w1 B v ts→ts.length≤n - 1→Calls Tryz.prog 77 #[v] w1 fun e w'=>∃ v',e= .returned v'∧OwnPn w' B v' (dq ts)∧Below B w1 w'
def AE (w:World) (G:List Nd) (e:Ending) (w':World):Prop:=∃ v us,e= .returned v∧(us.Perm (aR G G.length)∧us.Pairwise fun x y=>ltQ y x=false)∧OwnPn w' w.heap.size v (dq us)∧Below w.heap.size w w'
theorem OwnPn.belowG {w w':World} {B:Nat} {v:Value} {l:List Pn} (h:OwnPn w B v l) (hb:Below w.heap.size w w'):OwnPn w' B v l:=dE h hb
theorem OwnPn.lenG {w:World} {B:Nat} {v:Value} {l:List Pn} (h:OwnPn w B v l):∃ ad cap,v= .slice ad l.length cap:=by
 rcases h.2 with ⟨rfl,hn⟩|⟨g,cap,cur,rfl,_⟩
 · exact ⟨none,0,by rw [hn]⟩
 · exact ⟨_,cap,rfl⟩
theorem cF (p:Pn):∀ u ∈ aF p,u.oneCell'=true:=fun u hu=>by
 simp [aF] at hu
 rcases hu with rfl|rfl|rfl|rfl<;>rfl
theorem zM (l:List Pn):∀ x ∈ dq l,x ∈ l:=by
 have h:∀ (r:List Pn) (p x:Pn),x ∈ dqr p r→x ∈ r:=fun r=>by
  induction r with
  |nil=>intro p x hx;cases hx
  |cons y r ih=>
   intro p x hx;unfold dqr at hx
   split at hx
   · exact List.mem_cons_of_mem _ (ih _ _ hx)
   · rcases List.mem_cons.1 hx with rfl|hx
     · exact List.mem_cons_self
     · exact List.mem_cons_of_mem _ (ih _ _ hx)
 cases l with
 |nil=>intro x hx;cases hx
 |cons y r=>
  intro x hx
  rcases List.mem_cons.1 hx with rfl|hx
  · exact List.mem_cons_self
  · exact List.mem_cons_of_mem _ (h r y x hx)
set_option maxHeartbeats 12800000 in
theorem mT {G:List Nd} {v:Value} {w:World} (hG:NodesAt w v G) (hB:GrB G) (hN:∀ n ∈ G,n.nm.size≤281474976710656) (hzp:G.length≤1000000000000) (hcm:vF w G.length):
 Calls Tryz.prog 35 #[.agg #[v]] w fun e w'=>AE w G e w':=by
 obtain ⟨ad,cap,rfl,hcap,hl⟩:=hG
 have HEL:Hid (∀ k (h:k<G.length),∃ g o,ad=some ⟨g,o,none⟩∧∃ vc ve,NdIn w g (o+k*6) G[k] vc ve):=fun k hk=>by
  rcases hl with e|⟨g,o,e,_,hs⟩
  · rw [e] at hk;cases hk
  · exact ⟨g,o,e,hs k hk⟩
 have HN:=aA hN;have HCM:=aA hcm;have HB0:Hid (Below w.heap.size w (w.alloc (.cells #[.slice ad G.length cap] 55))):=aD _ _;have HPO:=aA (fun (n:Nd) (vc ve:Value) (h1:∃ ad n cap,vc= .slice ad n cap) (h2:∃ ad n cap,ve= .slice ad n cap) (w1:World)=>gC (s:=n.nm) (a:=n.a) (b:=n.b) (c:=n.c) (w:=w1) h1 h2);have HSO:=aA (fun (w1:World) (v1:Value) (V:List Pn) (h1:OwnPn w1 w.heap.size v1 V) (h2:V.length≤100000000000000)=>sQ h1 h2);have HSC:Hid (∀ (s:ByteArray) (W:World),s.size≤281474976710656→Calls Tryz.prog 78 #[.string s] W fun e w'=>e= .returned (.string s)∧Below W.heap.size W w'):=fun s W hs=>fL s hs W
 have hgl:=hB.1.1;clear hl hN hB hcm
 go_enter Tryz.func35,Tryz.ntmps35
 go_wp2_with fail
 go_loopw [3,11] (fun v3 vi wr=>∃ (k:Nat) (al:Option Addr) (cl:Nat),k≤G.length∧v3= .slice al (aR G k).length cl∧vi= .int .i64 k∧OwnPn wr w.heap.size (.slice al (aR G k).length cl) (aR G k)∧Below w.heap.size w wr) (fun _ vi _=>G.length - (intOf vi).toNat)
 case atStart=>exact ⟨0,none,0,Nat.zero_le _,rfl,rfl,OwnPn.nil _ _,HB0.out⟩
 case round=>
  clear HB0;obtain ⟨k,al,cl,hk,rfl,rfl,ho,hb⟩:=hrel;have HO:=aA ho;have HB:=aA hb
  by_cases hlt:k<G.length
  · obtain ⟨g,o,rfl,vc,ve,hx⟩:=HEL.out k hlt
    have hx1:=hx.below hb;obtain ⟨av,cv,rfl⟩:=hx.2.1.1.sl;obtain ⟨ae,ce,rfl⟩:=hx.2.1.2.sl;have HPX:Hid (∀ w1,Calls Tryz.prog 74 #[.agg #[.string G[k].nm,.int .i64 G[k].a,.int .i64 G[k].b,.int .i64 G[k].c,.slice av G[k].cx.length cv,.slice ae G[k].ed.length ce]] w1 fun e w'=>e= .returned (.agg #[.string G[k].nm,.int .i64 G[k].a,.int .i64 G[k].b,.int .i64 G[k].c])∧Below w1.heap.size w1 w'):=fun w1=>HPO.out G[k] _ _ ⟨_,_,_,rfl⟩ ⟨_,_,_,rfl⟩ w1
    obtain ⟨⟨x0,x1,x2,x3,x4,x5⟩,_,x6⟩:=hx1;have hkl:(k:Int)<G.length:=by omega
    clear hx
    rcases Nat.eq_zero_or_pos k with h0|h0
    · have hd0:¬ 0<k:=by omega
      have e1:aR G (k+1)=aR G k:=by
       subst h0;unfold aR;cases G with
       |nil=>rfl
       |cons a r=>simp
      have HR:Hid (OwnPn (wr.alloc (.cells #[.string G[k].nm,.int .i64 G[k].a,.int .i64 G[k].b,.int .i64 G[k].c,.slice av G[k].cx.length cv,.slice ae G[k].ed.length ce] 67)) w.heap.size (.slice al (aR G k).length cl) (aR G k)):=ho.belowG (aD _ _);have HE1:=aA e1;clear ho hb h0 e1;generalize hS:aR G k=S at*;generalize G[k]=x at*;generalize x.cx.length=l1 at*;generalize x.ed.length=l2 at*
      go_wp2_with fail
      exact ⟨⟨k+1,al,cl,by omega,by rw [HE1.out],by go_num,by rw [HE1.out];exact HR.out,aB HB.out (aD _ _)⟩,by simp [intOf];omega⟩
    · have hk0:(0:Int)<(k:Int):=by omega
      have HNX:Hid (aR G (k+1)=aR G k++[bV G[k]]):=iW hlt h0;have hpl:=eM G k;have HBX:Hid (Below w.heap.size w (wr.alloc (.cells #[.string G[k].nm,.int .i64 G[k].a,.int .i64 G[k].b,.int .i64 G[k].c,.slice av G[k].cx.length cv,.slice ae G[k].ed.length ce] 67))∧OwnPn (wr.alloc (.cells #[.string G[k].nm,.int .i64 G[k].a,.int .i64 G[k].b,.int .i64 G[k].c,.slice av G[k].cx.length cv,.slice ae G[k].ed.length ce] 67)) w.heap.size (.slice al (aR G k).length cl) (aR G k)):=⟨aB hb (aD _ _),ho.belowG (aD _ _)⟩;have hnd:bV G[k]=⟨G[k].nm,G[k].a,G[k].b,G[k].c⟩:=rfl;rw [hnd] at HNX;clear hnd ho hb;generalize G[k]=x at*;generalize hS:aR G k=S at*;generalize x.cx.length=l1 at*;generalize x.ed.length=l2 at*
      go_wp2_with (first
       |(go_at_call 74;refine (HPX.out _).mono ?_;rintro e w1 ⟨rfl,ok⟩;have HB1:Hid (Below w.heap.size w w1∧OwnPn w1 w.heap.size (.slice al S.length cl) S):=⟨aB HBX.out.1 ok,HBX.out.2.belowG ok⟩;have HB2:Hid (Below w.heap.size w (w1.alloc (.cells #[.string x.nm,.int .i64 x.a,.int .i64 x.b,.int .i64 x.c] 80))∧World.ownsRow (w1.alloc (.cells #[.string x.nm,.int .i64 x.a,.int .i64 x.b,.int .i64 x.c] 80)) w.heap.size 80 4 (.slice al S.length cl) S.length (S.flatMap aF)):=⟨aB HB1.out.1 (aD _ _),HB1.out.2.belowG (aD _ _)⟩;have HNW:Hid (∀ j u,(aF ⟨x.nm,x.a,x.b,x.c⟩)[j]? =some u→(w1.alloc (.cells #[.string x.nm,.int .i64 x.a,.int .i64 x.b,.int .i64 x.c] 80)).cell? ((⟨w1.heap.size,0,none⟩:Addr).add j)=some u):=(fun j u hu=>by
          rcases j with _|_|_|_|j<;>simp [aF] at hu<;>subst hu<;>simp [Addr.add]);clear ok)
       |(at_builtin;refine eL (B:=w.heap.size) (n:=S.length) (m:=1) (news:=aF ⟨x.nm,x.a,x.b,x.c⟩) pH Tryz.underlying40 rfl (by decide) rfl _ _ rfl rfl HB2.out.2 HB2.out.1.size rfl rfl HNW.out (cF _) (by omega) (by omega) ?_;intro v1 w2 ho hgr hat;have HO2:Hid (OwnPn w2 w.heap.size v1 (S++[⟨x.nm,x.a,x.b,x.c⟩])∧Below w.heap.size w w2):=(by
          refine ⟨?_,HB2.out.1.grown hgr HB2.out.1.size (fun k hk=>(World.ownsRow.lt HB2.out.2 k hk).1)⟩;unfold OwnPn;rw [List.length_append,List.flatMap_append]
          simpa using ho);obtain ⟨al2,cl2,rfl⟩:=HO2.out.1.lenG;clear ho hgr hat))
      exact ⟨⟨k+1,al2,cl2,by omega,by rw [HNX.out,List.length_append];rfl,by go_num,by rw [HNX.out];exact HO2.out.1,HO2.out.2⟩,by simp [intOf];omega⟩
  · have hke:k=G.length:=by omega
    subst hke;have hpl:=eM G G.length;have hlt2:¬ ((G.length:Int)<(G.length:Int)):=by omega
    have HSX:=aA (HSO.out wr _ _ ho (by omega));clear ho hb;generalize hS:aR G G.length=S at*
    go_wp2_with (first
     |(go_at_call 75;refine HSX.out.mono ?_;rintro e w1 ⟨rfl,us,hp,hs,ho1,hg1⟩;have HP1:=aA hp;have HS1:=aA hs;have hul:=hp.length_eq;have HO1:Hid (OwnPn w1 w.heap.size (.slice al us.length cl) us∧Below w.heap.size w w1):=(by
        refine ⟨by rw [←hul] at ho1;exact ho1,HB.out.grown hg1 HB.out.size (fun k hk=>(World.ownsRow.lt HO.out k hk).1)⟩);have HCX:=aA (HCM.out w1 w.heap.size _ us (Nat.le_refl _) HO1.out.2.size HO1.out.1 (by omega));rw [hul] at HCX;clear hp hs ho1 hg1)
     |(go_at_call 77;refine HCX.out.mono ?_;rintro e w2 ⟨v2,rfl,ho2,hb2⟩;have HO2:Hid (OwnPn w2 w.heap.size v2 (dq us)∧Below w.heap.size w w2):=⟨ho2,HO1.out.2.trans hb2⟩;obtain ⟨a2,c2,rfl⟩:=ho2.lenG;clear ho2 hb2))
    generalize hD:dq us=D at*
    have HND:Hid (∀ d ∈ D,d.nm.size≤281474976710656):=fun d hd=>by
     rw [←hD] at hd;have h1:=HP1.out.mem_iff.1 (zM us d hd);rw [←hS] at h1;unfold aR at h1;obtain ⟨x,hx,rfl⟩:=List.mem_map.1 h1;exact HN.out x (List.mem_of_mem_take (List.mem_of_mem_drop hx))
    have hDl:D.length≤1000000000000:=by
     have h1:∀ (r:List Pn) (p:Pn),(dqr p r).length≤r.length:=fun r=>by
      induction r with
      |nil=>intro p;exact Nat.le_refl _
      |cons y r ih=>
       intro p;unfold dqr
       split
       · exact Nat.le_trans (ih y) (Nat.le_succ _)
       · rw [List.length_cons,List.length_cons]
         exact Nat.succ_le_succ (ih y)
     have h2:(dq us).length≤us.length:=by
      cases us with
      |nil=>exact Nat.le_refl _
      |cons y r=>
       show (y::dqr y r).length≤_;rw [List.length_cons,List.length_cons];exact Nat.succ_le_succ (h1 r y)
     rw [hD] at h2;omega
    have HQF:Hid (∀ w',OwnPn w' w.heap.size (.slice a2 D.length c2) D→Below w.heap.size w w'→AE w G (.returned (.slice a2 D.length c2)) w'):=fun w' h1 h2=>⟨_,us,rfl,⟨by rw [hS];exact HP1.out,HS1.out⟩,by rw [hD];exact h1,h2⟩
    clear hD hS HP1 HS1 HSX
    go_loopw [30] (fun vi wq=>∃ i:Nat,i≤D.length∧vi= .int .i64 i∧OwnPn wq w.heap.size (.slice a2 D.length c2) D∧Below w.heap.size w wq) (fun vi _=>D.length - (intOf vi).toNat)
    case atStart=>exact ⟨0,Nat.zero_le _,rfl,HO2.out⟩
    case round=>
     clear HO2;obtain ⟨i,hi,rfl,ho,hb⟩:=hrel;have HOR:=aA ho;have HBR:=aA hb
     by_cases hil:i<D.length
     · obtain ⟨g2,cap2,hg2,hgl2,hv2,hc2,hpi⟩:=cS ho i hil
       cases hv2;have hsz:=HND.out _ (List.getElem_mem hil);have HSL:Hid ((D.flatMap aF)[i*4]? =some (.string D[i].nm)):=(mS D i hil).1
       have HFZ:Hid (∀ w3,OwnPn w3 w.heap.size (.slice (some ⟨g2,0,none⟩) D.length c2) D→w3.frozen? ⟨g2,i*4,none⟩=false∧w3.cell? ⟨g2,i*4,none⟩=some (.string D[i].nm)):=fun w3 h3=>by
        obtain ⟨g4,cap4,_,_,hv4,_,⟨q0,_⟩,_⟩:=cS h3 i hil;cases hv4;refine ⟨?_,q0⟩
        rcases h3.2 with ⟨e,_⟩|⟨g',cap',cur,hv,_,hgg,_⟩
        · cases e
        · cases hv
          simp [World.frozen?,hgg]
       have hii:(i:Int)<D.length:=by omega
       have hi0:(0:Int)≤i:=by omega
       have HOB:Hid (OwnPn (wr.alloc (.cells #[.string D[i].nm,.int .i64 D[i].a,.int .i64 D[i].b,.int .i64 D[i].c] 80)) w.heap.size (.slice (some ⟨g2,0,none⟩) D.length c2) D∧Below w.heap.size w (wr.alloc (.cells #[.string D[i].nm,.int .i64 D[i].a,.int .i64 D[i].b,.int .i64 D[i].c] 80))):=⟨ho.belowG (aD _ _),aB hb (aD _ _)⟩
       have HNXT:Hid (∀ w5,OwnPn w5 w.heap.size (.slice (some ⟨g2,0,none⟩) D.length c2) D→Below w.heap.size w w5→OwnPn (w5.setCell ⟨g2,i*4,none⟩ (.string D[i].nm)) w.heap.size (.slice (some ⟨g2,0,none⟩) D.length c2) D∧Below w.heap.size w (w5.setCell ⟨g2,i*4,none⟩ (.string D[i].nm))):=fun w5 h1 h2=>by
        obtain ⟨q1,q2⟩:=World.ownsRow.stored h1 (i*4) (.string D[i].nm);refine ⟨?_,h2.grown q2 h2.size (fun k hk=>by cases hk;exact hg2)⟩
        have e:(D.flatMap aF).set (i*4) (.string D[i].nm)=D.flatMap aF:=by
         obtain ⟨hlt,he⟩:=List.getElem?_eq_some_iff.1 HSL.out;rw [←he];exact List.set_getElem_self hlt
        rw [e] at q1;exact q1
       obtain ⟨⟨p0,p1,p2,p3⟩,p4⟩:=hpi;clear ho hb;generalize D[i]=d at*
       go_wp2_with (go_at_call 78;refine (HSC.out _ _ hsz).mono ?_;rintro e w5 ⟨rfl,ok⟩;have HO5:Hid (OwnPn w5 w.heap.size (.slice (some ⟨g2,0,none⟩) D.length c2) D∧Below w.heap.size w w5):=⟨HOB.out.1.belowG ok,aB HOB.out.2 ok⟩;obtain ⟨f0,k0⟩:=HFZ.out w5 HO5.out.1;clear ok)
       have HF:=aA (HNXT.out w5 HO5.out.1 HO5.out.2);exact ⟨⟨i+1,by omega,by go_num,HF.out.1,HF.out.2⟩,by simp [intOf];omega⟩
     · have hie:i=D.length:=by omega
       subst hie;have HF:=aA (HQF.out wr ho hb);clear ho hb
       go_wp2
       go_ret;exact HF.out
end Go.Proofs.YtpfemjlhklnfoaaGreatDoor
namespace Go.Proofs.YtpfemjlhklnfoaaGreatDoor
open Go.Shelf Go.RowKit Go.Lib Go.Sort
set_option maxRecDepth 100000
def lsQ:Pn→List Pn→Pn
 |p,[]=>p
 |_,y::r=>lsQ y r
theorem mU:∀ (p:Pn) (l:List Pn) (x:Pn),dqr p (l++[x])=dqr p l++(if bD x (lsQ p l)=true then [] else [x])
 |p,[],x=>by
  show (if bD x p=true then dqr x [] else x::dqr x [])=[]++(if bD x p=true then [] else [x]);rfl
 |p,y::r,x=>by
  have ih:=mU y r x;show (if bD y p=true then dqr y (r++[x]) else y::dqr y (r++[x]))=(if bD y p=true then dqr y r else y::dqr y r)++(if bD x (lsQ y r)=true then [] else [x]);rw [ih]
  by_cases h:bD y p=true
  · rw [if_pos h,if_pos h]
  · rw [if_neg h,if_neg h,List.cons_append]
theorem mV:∀ (x:Pn) (r:List Pn) (k:Nat) (hk:k<(x::r).length),lsQ x (r.take k)=(x::r)[k]
 |x,r,0,_=>rfl
 |x,[],k+1,hk=>by simp at hk
 |x,y::r,k+1,hk=>by
  rw [List.take_succ_cons];show lsQ y (r.take k)=(y::r)[k]'(by simpa using hk);exact mV y r k (by simpa using hk)
theorem kY {l:List Pn} {k:Nat} (hk:k+1<l.length):dq (l.take (k+2))=dq (l.take (k+1))++(if bD l[k+1] l[k]=true then [] else [l[k+1]]):=by
 rw [List.take_succ_eq_append_getElem hk];cases l with
 |nil=>cases hk
 |cons x r=>
  rw [List.take_succ_cons,List.cons_append];show x::dqr x (r.take k++[_])=x::dqr x (r.take k)++_;rw [mU,mV x r k (by omega),List.cons_append]
theorem vG {ts:List Pn} (h:0<ts.length):dq (ts.take 1)=ts.take 1:=iV (by rw [List.length_take];omega)
def cI:List Value→Nat→List Value→List Value
 |xs,_,[]=>xs
 |xs,o,v::r=>cI (xs.set o v) (o+1) r
theorem dX:∀ (vs l m:List Value) (o:Nat),cI (l++m) (l.length+o) vs=l++cI m o vs
 |[],_,_,_=>rfl
 |v::r,l,m,o=>by
  show cI ((l++m).set (l.length+o) v) (l.length+o+1) r=l++cI (m.set o v) (o+1) r;rw [List.set_append_right _ _ (by omega),show l.length+o - l.length=o by omega];exact dX r l (m.set o v) (o+1)
theorem fQ:∀ (vs xs:List Value) (o k:Nat),k≤o→(cI xs o vs).take k=xs.take k
 |[],_,_,_,_=>rfl
 |v::r,xs,o,k,h=>by
  show (cI (xs.set o v) (o+1) r).take k=_;rw [fQ r _ _ _ (by omega),List.take_set_of_le h]
theorem gS:∀ (zs:List Pn) (k:Nat) (x:Pn),k<zs.length→cI (zs.flatMap aF) (k*4) (aF x)=(zs.set k x).flatMap aF
 |[],_,_,h=>by cases h
 |z::r,0,x,_=>rfl
 |z::r,k+1,x,h=>by
  have ih:=gS r k x (by simpa using h);rw [List.flatMap_cons,show (k+1)*4=(aF z).length+k*4 by show _=4+k*4;omega,dX,ih];rfl
theorem cG {e:TypeId} {sz B g n cap:Nat}:∀ (vs:List Value) (o:Nat) (w:World) (xs:List Value),w.ownsRow B e sz (.slice (some ⟨g,0,none⟩) n cap) n xs→(w.setCells g o vs).ownsRow B e sz (.slice (some ⟨g,0,none⟩) n cap) n (cI xs o vs)
 |[],_,_,_,h=>h
 |v::r,o,_,_,h=>cG r (o+1) _ _ (World.ownsRow.stored h o v).1
theorem OwnPn.set {w:World} {B g cap:Nat} {zs:List Pn} (h:OwnPn w B (.slice (some ⟨g,0,none⟩) zs.length cap) zs) {k:Nat} (hk:k<zs.length) (x:Pn):OwnPn (w.setCells g (k*4) (aF x)) B (.slice (some ⟨g,0,none⟩) (zs.set k x).length cap) (zs.set k x):=by
 unfold OwnPn;rw [List.length_set,←gS zs k x hk];exact cG (aF x) (k*4) w _ h
theorem OwnPn.cleared {w:World} {B g cap:Nat} {zs:List Pn} (h:OwnPn w B (.slice (some ⟨g,0,none⟩) zs.length cap) zs) {k:Nat} (hk:k≤zs.length) (Z:List Value):OwnPn (w.setCells g (k*4) Z) B (.slice (some ⟨g,0,none⟩) (zs.take k).length cap) (zs.take k):=by
 have q:=cG Z (k*4) w _ h;have hlk:(zs.take k).length=k:=by rw [List.length_take];omega
 unfold OwnPn;rw [hlk]
 rcases q.2 with ⟨e,_⟩|⟨g',cap',cur,hv,h1,h2,h3,h4,h5,h6⟩
 · cases e
 · cases hv
   have hfl:((zs.take k).flatMap aF).length=k*4:=by
    rw [cK aF 4 (fun _=>rfl),hlk]
   refine ⟨hfl,Or.inr ⟨g,cap,cur,rfl,h1,h2,by omega,h4,h5,?_⟩⟩
   have e1:cur.toList.take (k*4)=(cI (zs.flatMap aF) (k*4) Z).take (k*4):=by
    rw [←h6,List.take_take,Nat.min_eq_left (Nat.mul_le_mul_right 4 hk)]
   rw [e1,fQ _ _ _ _ (Nat.le_refl _)]
   have e2:zs.flatMap aF=(zs.take k).flatMap aF++(zs.drop k).flatMap aF:=by
    rw [←List.flatMap_append,List.take_append_drop]
   rw [e2,List.take_append_of_le_length (by omega),List.take_of_length_le (by omega)]
theorem OwnPn.cell {w:World} {B g cap:Nat} {zs:List Pn} (h:OwnPn w B (.slice (some ⟨g,0,none⟩) zs.length cap) zs) {i:Nat} (hi:i<zs.length):PnIn w g (i*4) zs[i]:=by
 obtain ⟨g',cap',_,_,hv,_,hp⟩:=cS h i hi;cases hv;exact hp
theorem iX (w:World) (b k n c B cap:Nat) (hn:0<n) {zs:List Pn} (h:OwnPn w B (.slice (some ⟨b,0,none⟩) zs.length cap) zs) (hk:k+n≤zs.length):
 ∃ Z,∀ ty,(Builtin.clear_ #[40] ty #[.slice (some ⟨b,k*4,none⟩) n c]).run Tryz.prog w= .ok (.tuple #[]) (w.setCells b (k*4) Z):=by
 refine ⟨(Builtin.zeroCells (Value.agg #[.string ⟨#[]⟩,.int .i64 0,.int .i64 0,.int .i64 0]).cells n).toList,fun ty=> ?_⟩
 have hlen:(Builtin.zeroCells (Value.agg #[.string ⟨#[]⟩,.int .i64 0,.int .i64 0,.int .i64 0]).cells n).toList.length=n*4:=by
  simp [Builtin.zeroCells,Value.cells]
 have hfl:(zs.flatMap aF).length=zs.length*4:=cK aF 4 (fun _=>rfl) zs
 have hst:=run_storeCells_cells (P:=Tryz.prog) b (k*4) (Builtin.zeroCells (Value.agg #[.string ⟨#[]⟩,.int .i64 0,.int .i64 0,.int .i64 0]).cells n).toList 0 w (fun j hj=>by
  rw [hlen] at hj;rw [World.ownsRow.cellAt h (k*4+0+j) (by omega),List.getElem?_eq_getElem (by omega)];rfl) (fun j hj=>World.ownsRow.frozenAt h _) (fun u hu=>by
  unfold Builtin.zeroCells at hu;rw [Array.toList_map,List.mem_map] at hu;obtain ⟨i,_,rfl⟩:=hu
  have hz:∀ r:Nat,r<4→((#[.string ⟨#[]⟩,.int .i64 0,.int .i64 0,.int .i64 0]:Array Value)[r]!).oneCell'=true:=fun r hr=>by
   rcases (show r=0∨r=1∨r=2∨r=3 by omega) with rfl|rfl|rfl|rfl<;>rfl
  exact hz (i % 4) (Nat.mod_lt _ (by decide)))
 simp only [Nat.add_zero] at hst;obtain ⟨m,rfl⟩:∃ m,n=m+1:=⟨n - 1,by omega⟩;simp [Builtin.clear_,run_underlying Tryz.underlying40,Tryz.zeroValue80,hst]
def CP (w:World) (B g cap:Nat) (ts:List Pn) (p i kk:Nat) (zs:List Pn) (wq:World):Prop:=(p+i+1≤ts.length∧zs.length=ts.length∧kk≤p+i)∧dq (ts.take (p+i+1))=zs.take kk∧(∀ q (h1:q<zs.length) (h2:q<ts.length),p+i≤q→zs[q]=ts[q])∧OwnPn wq B (.slice (some ⟨g,0,none⟩) zs.length cap) zs∧Below B w wq
theorem CP.same {w:World} {B g cap:Nat} {ts:List Pn} {p i kk:Nat} {zs:List Pn} {wq wz:World} (h:CP w B g cap ts p i kk zs wq) (hlt:p+i+1<ts.length) (hq:bD (ts[p+i+1]'hlt) (ts[p+i]'(by omega))=true) (hr:OwnPn wz B (.slice (some ⟨g,0,none⟩) zs.length cap) zs) (hb:Below B w wz):CP w B g cap ts p (i+1) kk zs wz:=by
 obtain ⟨⟨h1,h2,h3⟩,h4,h5,_,_⟩:=h;refine ⟨⟨by omega,h2,by omega⟩,?_,fun q q1 q2 q3=>h5 q q1 q2 (by omega),hr,hb⟩;have q:=kY hlt;rw [if_pos hq,List.append_nil,h4] at q;exact q
theorem CP.other {w:World} {B g cap:Nat} {ts:List Pn} {p i kk:Nat} {zs:List Pn} {wq wz:World} (h:CP w B g cap ts p i kk zs wq) (hlt:p+i+1<ts.length) (hq:bD (ts[p+i+1]'hlt) (ts[p+i]'(by omega))=false) (hr:OwnPn wz B (.slice (some ⟨g,0,none⟩) (zs.set kk (ts[p+i+1]'hlt)).length cap) (zs.set kk (ts[p+i+1]'hlt))) (hb:Below B w wz):CP w B g cap ts p (i+1) (kk+1) (zs.set kk (ts[p+i+1]'hlt)) wz:=by
 obtain ⟨⟨h1,h2,h3⟩,h4,h5,_,_⟩:=h;refine ⟨⟨by omega,by rw [List.length_set];exact h2,by omega⟩,?_,fun q q1 q2 q3=> ?_,hr,hb⟩
 · have q:=kY hlt
   rw [if_neg (by rw [hq];simp),h4] at q;rw [show p+(i+1)+1=p+i+2 by omega,q,List.take_succ_eq_append_getElem (by rw [List.length_set];omega),List.getElem_set_self,List.take_set_of_le (Nat.le_refl _)]
 · rw [List.getElem_set_ne (by omega)]
   exact h5 q (by rw [List.length_set] at q1;exact q1) q2 (by omega)
theorem yS {n:Nat} (h:n≤9223372036854775807):IntKind.i64.wrap (n:Int)=n:=by
 simp [IntKind.wrap,IntKind.bits,IntKind.signed];omega
set_option maxHeartbeats 12800000 in
theorem kZ {w:World} {B:Nat} {v:Value} {ts:List Pn} (h:OwnPn w B v ts) (hn2:2≤ts.length) (hA:ts.length≤1000000000000):
 Calls Tryz.prog 77 #[v] w fun e w'=>∃ v',e= .returned v'∧OwnPn w' B v' (dq ts)∧Below B w w':=by
 obtain ⟨g,cap,hBg,hgl,rfl,hcap,_⟩:=cS h 0 (by omega);have HRW:=aA h;have HQ:Hid (∀ us wz,OwnPn wz B (.slice (some ⟨g,0,none⟩) us.length cap) us→us=dq ts→Below B w wz→∃ v',Ending.returned (.slice (some ⟨g,0,none⟩) us.length cap)= .returned v'∧OwnPn wz B v' (dq ts)∧Below B w wz):=fun us wz hr he hb=>⟨_,rfl,by rw [←he];exact hr,hb⟩
 have h2i:decide ((ts.length:Int)<2)=false:=decide_eq_false (by omega);have hgd:=eI;clear h
 go_enter Tryz.func77,Tryz.ntmps77
 go_wp2_with fail
 go_loopw [3] (fun vk wr=>∃ j:Nat,j<ts.length∧vk= .int .i64 ((j+1:Nat):Int)∧Below w.heap.size w wr∧dq (ts.take (j+1))=ts.take (j+1)) (fun vk _=>ts.length - (intOf vk).toNat)
 case atStart=>exact ⟨0,by omega,rfl,Below.refl _ _,vG (by omega)⟩
 case round=>
  obtain ⟨j,hj,rfl,hb,hcm⟩:=hrel;have HB:=aA hb;have HCM:=aA hcm;have HBB:Hid (Below B w wr):=hb.mono (by omega)
  by_cases hlt:j+1<ts.length
  · have HRR:=aA (HRW.out.belowG hb)
    have d1:=HRR.out.cell hlt;have d2:=HRR.out.cell hj;have HSN:=aA (kY hlt);have hw1:IntKind.i64.wrap (j:Int)=j:=yS (by omega);have hji:(j:Int)+1<ts.length:=by omega
    have hj0:(0:Int)≤(j:Int)+1:=by omega
    have hjj:(j:Int)<ts.length:=by omega
    have HK:Hid (KeepP fun w1=>Below wr.heap.size wr w1∧PnIn w1 g ((j+1)*4) ts[j+1]∧PnIn w1 g (j*4) ts[j]):=(aL wr).and ((cA _ _ _).and (cA _ _ _));have HO:Hid (Below wr.heap.size wr wr∧PnIn wr g ((j+1)*4) ts[j+1]∧PnIn wr g (j*4) ts[j]):=⟨Below.refl _ _,d1,d2⟩;have hv:=uF ts[j+1] ts[j];clear d1 d2 hb hcm;cases hq:bD ts[j+1] ts[j]
    · have HCN:Hid (dq (ts.take (j+1+1))=ts.take (j+1+1)):=by
       have q:=HSN.out;rw [hq,if_neg (by simp),HCM.out,←List.take_succ_eq_append_getElem hlt] at q;exact q
      rw [hq] at hv;clear hq HSN
      go_wp2_with fail
      refine aX HK (by kernel_rfl) (by kernel_rfl) (by first|exact HO.out|exact HK.out.drew HO.out) ?_;intro C HIN HOUT;clear HO
      repeat
       (with_reducible refine wpQuiet_step (fun K hK=> ?_)
        go_simp
        first
         |(refine hK _ ?_;clear hK K)
         |(apply Exists.intro;refine ⟨fun w1 hC=> ?_,hK _ ?_⟩;(focus ((first|(exact rfl)|(obtain ⟨hb1,⟨⟨p0,p1,p2,p3⟩,p9⟩,⟨⟨q0,q1,q2,q3⟩,q9⟩⟩:=HOUT.out w1 hC;clear hC;go_simp;first|done|exact rfl));done));clear hK K))
      refine wpQuiet_nil ?_;intro wn hC;have HO:=aA (HOUT.out _ hC);clear hC HIN HOUT C;obtain ⟨hb1,⟨⟨p0,p1,p2,p3⟩,p9⟩,⟨⟨q0,q1,q2,q3⟩,q9⟩⟩:=HO.out
      go_wp2
      exact ⟨⟨j+1,by omega,by go_num,aB HB.out HO.out.1,HCN.out⟩,by simp [intOf];omega⟩
    · have HCN:Hid (dq (ts.take (j+1+1))=ts.take (j+1)):=by
       have q:=HSN.out;rw [hq,if_pos rfl,HCM.out,List.append_nil] at q;exact q
      rw [hq] at hv;clear hq HSN
      go_wp2_with fail
      refine aX HK (by kernel_rfl) (by kernel_rfl) (by first|exact HO.out|exact HK.out.drew HO.out) ?_;intro C HIN HOUT;clear HO
      repeat
       (with_reducible refine wpQuiet_step (fun K hK=> ?_)
        go_simp
        first
         |(refine hK _ ?_;clear hK K)
         |(apply Exists.intro;refine ⟨fun w1 hC=> ?_,hK _ ?_⟩;(focus ((first|(exact rfl)|(obtain ⟨hb1,⟨⟨p0,p1,p2,p3⟩,p9⟩,⟨⟨q0,q1,q2,q3⟩,q9⟩⟩:=HOUT.out w1 hC;clear hC;go_simp;first|done|exact rfl));done));clear hK K))
      refine wpQuiet_nil ?_;intro wn hC;have HO:=aA (HOUT.out _ hC);clear hC HIN HOUT C;obtain ⟨hb1,⟨⟨p0,p1,p2,p3⟩,p9⟩,⟨⟨q0,q1,q2,q3⟩,q9⟩⟩:=HO.out;have HBN:=aA (aB HB.out hb1);clear p0 p1 p2 p3 p9 q0 q1 q2 q3 q9 hb1 HO HK HRR HBB hv;have HRN:=aA (HRW.out.belowG HBN.out);have HCI:Hid (CP w B g cap ts (j+1) 0 (j+1) ts wn):=⟨⟨by omega,rfl,by omega⟩,HCN.out,fun q q1 q2 _=>rfl,HRN.out,HBN.out.mono (by omega)⟩;have s1:j+1≤ts.length:=by omega
      have s2:(j:Int)+1≤ts.length:=by omega
      have s3:(j:Int)+1≤cap:=by omega
      have s4:¬ cap=j+1:=by omega
      clear HRN HCN HCM HB
      go_wp2_with fail
      generalize hm:ts.length - (j+1)=m at*;generalize cap - (j+1)=m2 at*;have hm1:m+(j+1)≤ts.length:=by omega
      have hm2:ts.length≤m+(j+1):=by omega
      clear hm
      go_loopw [3,5] (fun vk vi wr=>∃ (i kk:Nat) (zs:List Pn),vi= .int .i64 ((i+1:Nat):Int)∧vk= .int .i64 (kk:Nat)∧CP w B g cap ts (j+1) i kk zs wr) (fun _ vi _=>ts.length - (intOf vi).toNat)
      case atStart=>exact ⟨0,j+1,ts,rfl,by go_num,HCI.out⟩
      case round=>
       clear HCI HBN;obtain ⟨i,kk,zs,rfl,rfl,hci⟩:=hrel;have HCI:=aA hci;obtain ⟨⟨c1,c2,c3⟩,c4,c5,c6,c8⟩:=hci;have HRZ:=aA c6;have HBZ:=aA c8;have HC4:=aA c4;have HC2:=aA c2
       by_cases hlt2:j+1+i+1<ts.length
       · have hz1:j+1+i+1<zs.length:=by omega
         have hz2:j+1+i<zs.length:=by omega
         have hx:=c5 (j+1+i+1) hz1 hlt2 (by omega);have hy:=c5 (j+1+i) hz2 (by omega) (by omega);have d1:=c6.cell hz1;have d2:=c6.cell hz2;rw [hx,show (j+1+i+1)*4=(j+1)*4+(i+1)*4 by omega] at d1;rw [hy,show (j+1+i)*4=(j+1)*4+i*4 by omega] at d2;have hw1:IntKind.i64.wrap (i:Int)=i:=yS (by omega);have hii:(i:Int)+1<m:=by omega
         have hi0:(0:Int)≤(i:Int)+1:=by omega
         have hij:(i:Int)<m:=by omega
         have hBw:B≤wr.heap.size:=by have q:=c8.size;omega
         have HK:Hid (KeepP fun w9=>Below wr.heap.size wr w9∧PnIn w9 g ((j+1)*4+(i+1)*4) ts[j+1+i+1]∧PnIn w9 g ((j+1)*4+i*4) ts[j+1+i]∧OwnPn w9 B (.slice (some ⟨g,0,none⟩) zs.length cap) zs):=(aL wr).and ((cA _ _ _).and ((cA _ _ _).and (fun _ _ h hb=>h.belowG hb)));have HO:Hid (Below wr.heap.size wr wr∧PnIn wr g ((j+1)*4+(i+1)*4) ts[j+1+i+1]∧PnIn wr g ((j+1)*4+i*4) ts[j+1+i]∧OwnPn wr B (.slice (some ⟨g,0,none⟩) zs.length cap) zs):=⟨Below.refl _ _,d1,d2,c6⟩;have hv:=qK ts[j+1+i+1] ts[j+1+i];clear d1 d2 hx hy c2 c4 c5 c6 c8;cases hq:bD ts[j+1+i+1] ts[j+1+i]
         · have HNX:=aA (fun wz hr hb=>HCI.out.other (wz:=wz) hlt2 hq hr hb)
           rw [hq] at hv;clear hq;have HEX:Hid (aF ts[j+1+i+1]=[.string ts[j+1+i+1].nm,.int .i64 ts[j+1+i+1].a,.int .i64 ts[j+1+i+1].b,.int .i64 ts[j+1+i+1].c]):=rfl
           go_wp2_with fail
           refine aX HK (by kernel_rfl) (by kernel_rfl) (by first|exact HO.out|exact HK.out.drew HO.out) ?_;intro C HIN HOUT;clear HO
           repeat
            (with_reducible refine wpQuiet_step (fun K hK=> ?_)
             go_simp
             first
              |(refine hK _ ?_;clear hK K)
              |(apply Exists.intro;refine ⟨fun w1 hC=> ?_,hK _ ?_⟩;(focus ((first|(exact rfl)|(obtain ⟨hb1,⟨⟨p0,p1,p2,p3⟩,p9⟩,⟨⟨q0,q1,q2,q3⟩,q9⟩,hrw⟩:=HOUT.out w1 hC;clear hC;go_simp;first|done|exact rfl));done));clear hK K))
           refine wpQuiet_nil ?_;intro wn hC;have HO:=aA (HOUT.out _ hC);clear hC HIN HOUT C;obtain ⟨hb1,⟨⟨p0,p1,p2,p3⟩,p9⟩,⟨⟨q0,q1,q2,q3⟩,q9⟩,hrw⟩:=HO.out;have HRN:=aA hrw;have HBN2:Hid (Below B w wn):=HBZ.out.trans (hb1.mono hBw);have hkz:kk<zs.length:=by omega
           have hkt:(kk:Int)<ts.length:=by omega
           obtain ⟨⟨k0,k1,k2,k3⟩,_⟩:=hrw.cell hkz;have f0:=World.ownsRow.frozenAt hrw (kk*4);have f1:=World.ownsRow.frozenAt hrw (kk*4+1);have f2:=World.ownsRow.frozenAt hrw (kk*4+2);have f3:=World.ownsRow.frozenAt hrw (kk*4+3);clear q0 q1 q2 q3 q9 hrw hb1 HO HK hv
           go_wp2
           refine ⟨⟨i+1,kk+1,zs.set kk ts[j+1+i+1],by go_num,by go_num,HNX.out _ ?_ ?_⟩,by simp [intOf];omega⟩
           · have q:=HRN.out.set hkz ts[j+1+i+1]
             rw [HEX.out] at q;exact q
           · have q:=below_setCells hBg (aF ts[j+1+i+1]) (kk*4) wn HBN2.out
             rw [HEX.out] at q;exact q
         · have HNX:=aA (fun wz hr hb=>HCI.out.same (wz:=wz) hlt2 hq hr hb)
           rw [hq] at hv;clear hq
           go_wp2_with fail
           refine aX HK (by kernel_rfl) (by kernel_rfl) (by first|exact HO.out|exact HK.out.drew HO.out) ?_;intro C HIN HOUT;clear HO
           repeat
            (with_reducible refine wpQuiet_step (fun K hK=> ?_)
             go_simp
             first
              |(refine hK _ ?_;clear hK K)
              |(apply Exists.intro;refine ⟨fun w1 hC=> ?_,hK _ ?_⟩;(focus ((first|(exact rfl)|(obtain ⟨hb1,⟨⟨p0,p1,p2,p3⟩,p9⟩,⟨⟨q0,q1,q2,q3⟩,q9⟩,hrw⟩:=HOUT.out w1 hC;clear hC;go_simp;first|done|exact rfl));done));clear hK K))
           refine wpQuiet_nil ?_;intro wn hC;have HO:=aA (HOUT.out _ hC);clear hC HIN HOUT C;obtain ⟨hb1,⟨⟨p0,p1,p2,p3⟩,p9⟩,⟨⟨q0,q1,q2,q3⟩,q9⟩,hrw⟩:=HO.out;have HRN:=aA hrw;have HBN2:Hid (Below B w wn):=HBZ.out.trans (hb1.mono hBw);clear p0 p1 p2 p3 p9 q0 q1 q2 q3 q9 hrw hb1 HO HK hv
           go_wp2
           exact ⟨⟨i+1,kk,zs,by go_num,rfl,HNX.out _ HRN.out HBN2.out⟩,by simp [intOf];omega⟩
       · have hkl:kk<ts.length:=by omega
         have hkz:kk≤zs.length:=by omega
         obtain ⟨Z,hcl⟩:=iX wr g kk (ts.length - kk) (cap - kk) B cap (by omega) HRZ.out (by omega);obtain ⟨wc,hwc⟩:∃ x,x=wr.setCells g (kk*4) Z:=⟨_,rfl⟩
         have HFI:Hid (∃ v',Ending.returned (.slice (some ⟨g,0,none⟩) kk cap)= .returned v'∧OwnPn wc B v' (dq ts)∧Below B w wc):=by
          have q:=HQ.out (zs.take kk) wc (by rw [hwc];exact HRZ.out.cleared hkz Z) (by rw [←HC4.out,List.take_of_length_le (by omega)]) (by rw [hwc];exact below_setCells hBg Z (kk*4) wr HBZ.out);rw [show (zs.take kk).length=kk by rw [List.length_take];omega] at q;exact q
         rw [←hwc] at hcl;have hk1:kk≤ts.length:=by omega
         have hk2:(kk:Int)≤ts.length:=by omega
         have hk3:(kk:Int)≤cap:=by omega
         have hk4:¬ cap=kk:=by omega
         have hii:¬ ((i:Int)+1<m):=by omega
         clear c4 c5 c6 c8 c2 hwc
         go_wp2
         go_ret;exact HFI.out
  · have HCT:Hid (ts=dq ts):=by
     have q:=HCM.out;rw [List.take_of_length_le (by omega)] at q;exact q.symm
    have hki:¬ ((j:Int)+1<ts.length):=by omega
    have HRR:=aA (HRW.out.belowG hb);clear hb hcm
    go_wp2
    go_ret;exact HQ.out ts wr HRR.out HCT.out HBB.out
end Go.Proofs.YtpfemjlhklnfoaaGreatDoor
namespace Go.Proofs.YtpfemjlhklnfoaaGreatDoor
open Go.RowKit
set_option maxRecDepth 100000
set_option maxHeartbeats 1600000 in
theorem pK (A B:List Pn) (hAB:A.length=B.length) (hsz:A.length≤9223372036854775807) (ga oa ca gb ob cb:Nat) (w:World) (hla:∀ i (h:i<A.length),PnIn w ga (oa+i*4) A[i]) (hlb:∀ i (h:i<B.length),PnIn w gb (ob+i*4) B[i]):
 Calls Tryz.prog 123 #[.slice (some ⟨ga,oa,none⟩) A.length ca,.slice (some ⟨gb,ob,none⟩) B.length cb] w fun e w'=>e= .returned (.bool (eqB A B))∧Below w.heap.size w w':=by
 have HL:Hid (∀ w1,Below w.heap.size w w1→∀ i (h:i<A.length) (h2:i<B.length),PnIn w1 ga (oa+i*4) A[i]∧PnIn w1 gb (ob+i*4) B[i]):=fun w1 hb i hi hi2=>⟨(hla i hi).below hb,(hlb i hi2).below hb⟩
 have HAB:=aA hAB;clear hla hlb;rw [←hAB];clear hAB
 go_enter Tryz.func123,Tryz.ntmps123
 go_wp2_with fail
 go_loopw [5] (fun i wr=>∃ k:Nat,k≤A.length∧i= .int .i64 k∧Below w.heap.size w wr∧∀ j (h:j<k) (h1:j<A.length) (h2:j<B.length),A[j]=B[j]) (fun i _=>A.length - (intOf i).toNat)
 case atStart=>exact ⟨0,Nat.zero_le _,rfl,Below.refl _ _,fun j h=>by omega⟩
 case round=>
  obtain ⟨k,hk,rfl,hb,hall⟩:=hrel;have HALL:=aA hall;have HB:=aA hb;clear hall
  by_cases hlt:k<A.length
  · have hltB:k<B.length:=HAB.out ▸ hlt
    have HO:Hid (Below w.heap.size w wr∧PnIn wr ga (oa+k*4) A[k]∧PnIn wr gb (ob+k*4) B[k]):=⟨hb,HL.out wr hb k hlt hltB⟩;have HK:Hid (KeepP fun w1=>Below w.heap.size w w1∧PnIn w1 ga (oa+k*4) A[k]∧PnIn w1 gb (ob+k*4) B[k]):=(aL w).and ((cA _ _ _).and (cA _ _ _));have HNE:Hid (bD A[k] B[k]=false→eqB A B=false):=fun h=>cD fun e=>by subst e;rw [bI.2 rfl] at h;cases h
    have HST:Hid (bD A[k] B[k]=true→∀ j (h:j<k+1) (h1:j<A.length) (h2:j<B.length),A[j]=B[j]):=fun h j hj h1 h2=>by
     rcases Nat.lt_or_ge j k with hjk|hjk
     · exact HALL.out j hjk h1 h2
     · obtain rfl:j=k:=by omega
       exact bI.1 h
    have he:=qK A[k] B[k];generalize A[k]=s at*;generalize B[k]=t at*;have hgd:=eI;cases hq:bD s t
    · have HR:=aA (HNE.out hq)
      rw [hq] at he;clear hb HNE HST HALL
      go_wp2_with fail
      refine aX HK (by kernel_rfl) (by kernel_rfl) (by first|exact HO.out|exact HK.out.drew HO.out) ?_;intro C HIN HOUT;clear HO
      repeat
       (with_reducible refine wpQuiet_step (fun K hK=> ?_)
        go_simp
        first
         |(refine hK _ ?_;clear hK K)
         |(apply Exists.intro;refine ⟨fun w1 hC=> ?_,hK _ ?_⟩;(focus ((first|(exact rfl)|(obtain ⟨hb1,⟨⟨p0,p1,p2,p3⟩,p6⟩,⟨⟨q0,q1,q2,q3⟩,q6⟩⟩:=HOUT.out w1 hC;clear hC;go_simp;first|done|exact rfl));done));clear hK K))
      refine wpQuiet_nil ?_;intro wn hC;have HO:=aA (HOUT.out _ hC);clear hC HIN HOUT C;obtain ⟨hb1,⟨⟨p0,p1,p2,p3⟩,p6⟩,⟨⟨q0,q1,q2,q3⟩,q6⟩⟩:=HO.out
      go_wp2
      go_ret;exact ⟨aC HR.out.symm,HO.out.1⟩
    · have HR:=aA (HST.out hq)
      rw [hq] at he;clear hb HNE HST HALL
      go_wp2_with fail
      refine aX HK (by kernel_rfl) (by kernel_rfl) (by first|exact HO.out|exact HK.out.drew HO.out) ?_;intro C HIN HOUT;clear HO
      repeat
       (with_reducible refine wpQuiet_step (fun K hK=> ?_)
        go_simp
        first
         |(refine hK _ ?_;clear hK K)
         |(apply Exists.intro;refine ⟨fun w1 hC=> ?_,hK _ ?_⟩;(focus ((first|(exact rfl)|(obtain ⟨hb1,⟨⟨p0,p1,p2,p3⟩,p6⟩,⟨⟨q0,q1,q2,q3⟩,q6⟩⟩:=HOUT.out w1 hC;clear hC;go_simp;first|done|exact rfl));done));clear hK K))
      refine wpQuiet_nil ?_;intro wn hC;have HO:=aA (HOUT.out _ hC);clear hC HIN HOUT C;obtain ⟨hb1,⟨⟨p0,p1,p2,p3⟩,p6⟩,⟨⟨q0,q1,q2,q3⟩,q6⟩⟩:=HO.out
      go_wp2
      exact ⟨⟨k+1,by omega,by go_num,HO.out.1,HR.out⟩,by simp [intOf];omega⟩
  · have hke:k=A.length:=by omega
    subst hke;have HR:Hid (eqB A B=true):=aN (List.ext_getElem HAB.out fun j h1 h2=>HALL.out j h1 h1 h2);clear hb
    go_wp2
    go_ret;exact ⟨aC HR.out.symm,HB.out⟩
theorem jY (ad bd:Option Addr) (ca cb:Nat) (w:World):
 Calls Tryz.prog 123 #[.slice ad 0 ca,.slice bd 0 cb] w fun e w'=>e= .returned (.bool true)∧Below w.heap.size w w':=by
 go_enter Tryz.func123,Tryz.ntmps123
 go_wp2_with fail
 go_loop [5] (fun i=>i= .int .i64 0) (fun _=>0)
 case atStart=>rfl
 case round=>
  subst hrel
  go_wp2
  go_ret;exact ⟨rfl,Below.refl _ _⟩
theorem sR (ad bd:Option Addr) (n m ca cb:Nat) (h:n≠m) (w:World):
 Calls Tryz.prog 123 #[.slice ad n ca,.slice bd m cb] w fun e w'=>e= .returned (.bool false)∧Below w.heap.size w w':=by
 have hn:((n:Int)=(m:Int))=False:=by simp;omega
 go_enter Tryz.func123,Tryz.ntmps123
 go_wp2
 go_ret;exact ⟨rfl,Below.refl _ _⟩
theorem sS {A B:List Pn} {va vb:Value} {w:World} (ha:PinsAt w va A) (hb:PinsAt w vb B) (hsz:A.length≤9223372036854775807):
 Calls Tryz.prog 123 #[va,vb] w fun e w'=>e= .returned (.bool (eqB A B))∧Below w.heap.size w w':=by
 obtain ⟨ad,ca,rfl,_,hl⟩:=ha;obtain ⟨bd,cb,rfl,_,hm⟩:=hb
 by_cases hn:A.length=B.length
 · rcases hl with rfl|⟨ga,oa,rfl,hga,hla⟩
   · obtain rfl:B=[]:=List.eq_nil_of_length_eq_zero (by simpa using hn.symm)
     rw [aN rfl];exact jY _ _ _ _ w
   · rcases hm with rfl|⟨gb,ob,rfl,hgb,hlb⟩
     · obtain rfl:A=[]:=List.eq_nil_of_length_eq_zero (by simpa using hn)
       rw [aN rfl];exact jY _ _ _ _ w
     · exact pK A B hn hsz ga oa ca gb ob cb w hla hlb
 · rw [cD fun e=>hn (by rw [e])]
   exact sR _ _ _ _ _ _ hn w
theorem xR {n m:Nd} (h:n.nm.toList≠m.nm.toList):bD (bV n) (bV m)=false:=by
 unfold bD bV
 simp only
 rw [decide_eq_false h];rfl
theorem xS {n m:Nd} (h:n.nm.toList=m.nm.toList):bD (bV n) (bV m)=(decide (n.a=m.a)&&decide (n.b=m.b)&&decide (n.c=m.c)):=by
 unfold bD bV
 simp only
 rw [decide_eq_true h];rfl
set_option maxHeartbeats 1600000 in
theorem pL {n m:Nd} {vc ve uc ue:Value} {w:World} (hc:PinsAt w vc n.cx) (he:∃ ad k cap,ve= .slice ad k cap) (hd:PinsAt w uc m.cx) (hf:∃ ad k cap,ue= .slice ad k cap) (hz:n.cx.length≤9223372036854775807):
 Calls Tryz.prog 71 #[.agg #[.string n.nm,.int .i64 n.a,.int .i64 n.b,.int .i64 n.c,vc,ve],.agg #[.string m.nm,.int .i64 m.a,.int .i64 m.b,.int .i64 m.c,uc,ue]] w fun e w'=>e= .returned (.bool (bW n m))∧Below w.heap.size w w':=by
 have HE:Hid (∀ w1,Below w.heap.size w w1→Calls Tryz.prog 123 #[vc,uc] w1 fun x w'=>x= .returned (.bool (eqB n.cx m.cx))∧Below w1.heap.size w1 w'):=fun w1 h=>sS (hc.below h) (hd.below h) hz
 have hv:=AH n.a n.b n.c m.a m.b m.c;have hgd:=hR;have HA:Hid (bW n m=(bD (bV n) (bV m)&&eqB n.cx m.cx)):=rfl;obtain ⟨ac,cc,rfl⟩:=hc.sl;obtain ⟨uc',cd,rfl⟩:=hd.sl;obtain ⟨ae,ke,ce,rfl⟩:=he;obtain ⟨af,kf,cf,rfl⟩:=hf
 have HO:Hid (Below w.heap.size w ((w.alloc (.cells #[.string n.nm,.int .i64 n.a,.int .i64 n.b,.int .i64 n.c,.slice ac n.cx.length cc,.slice ae ke ce] 67)).alloc (.cells #[.string m.nm,.int .i64 m.a,.int .i64 m.b,.int .i64 m.c,.slice uc' m.cx.length cd,.slice af kf cf] 67))∧BxNd ((w.alloc (.cells #[.string n.nm,.int .i64 n.a,.int .i64 n.b,.int .i64 n.c,.slice ac n.cx.length cc,.slice ae ke ce] 67)).alloc (.cells #[.string m.nm,.int .i64 m.a,.int .i64 m.b,.int .i64 m.c,.slice uc' m.cx.length cd,.slice af kf cf] 67)) w.heap.size n (.slice ac n.cx.length cc) (.slice ae ke ce)∧BxNd ((w.alloc (.cells #[.string n.nm,.int .i64 n.a,.int .i64 n.b,.int .i64 n.c,.slice ac n.cx.length cc,.slice ae ke ce] 67)).alloc (.cells #[.string m.nm,.int .i64 m.a,.int .i64 m.b,.int .i64 m.c,.slice uc' m.cx.length cd,.slice af kf cf] 67)) (w.heap.size+1) m (.slice uc' m.cx.length cd) (.slice af kf cf)):=
  ⟨aM _ _ _,aJ _ _ _ _ _ _ (BxNd.new rfl _ _ _) (aD _ _),BxNd.new (by simp) _ _ _⟩
 by_cases hnm:n.nm.toList=m.nm.toList
 · have HV:=aA (xS hnm)
   generalize bW n m=ab at*;generalize eqB n.cx m.cx=eb at*;generalize bD (bV n) (bV m)=pb at*;generalize (decide (n.a=m.a)&&decide (n.b=m.b)&&decide (n.c=m.c))=xv at*;clear hc hd hz;generalize n.cx.length=l1 at*;generalize m.cx.length=l2 at*;cases xv
   · have HR:Hid (ab=false):=by unfold Hid;rw [HA.out,HV.out];rfl
     go_enter Tryz.func71,Tryz.ntmps71
     go_wp2_with (go_at_call 123;refine (HE.out _ HO.out.1).mono ?_;rintro x w1 ⟨rfl,ok⟩;have HO1:Hid (Below w.heap.size w w1∧BxNd w1 w.heap.size n (.slice ac l1 cc) (.slice ae ke ce)∧BxNd w1 (w.heap.size+1) m (.slice uc' l2 cd) (.slice af kf cf)):=⟨aB HO.out.1 ok,aJ _ _ _ _ _ _ HO.out.2.1 ok,aJ _ _ _ _ _ _ HO.out.2.2 ok⟩;obtain ⟨_,⟨⟨p0,p1,p2,p3,p4,p5⟩,p6⟩,⟨⟨q0,q1,q2,q3,q4,q5⟩,q6⟩⟩:=HO1.out;clear ok)
     go_ret;exact ⟨aC HR.out.symm,HO1.out.1⟩
   · have HR:Hid (ab=eb):=by unfold Hid;rw [HA.out,HV.out];rfl
     go_enter Tryz.func71,Tryz.ntmps71
     go_wp2_with (go_at_call 123;refine (HE.out _ HO.out.1).mono ?_;rintro x w1 ⟨rfl,ok⟩;have HO1:Hid (Below w.heap.size w w1∧BxNd w1 w.heap.size n (.slice ac l1 cc) (.slice ae ke ce)∧BxNd w1 (w.heap.size+1) m (.slice uc' l2 cd) (.slice af kf cf)):=⟨aB HO.out.1 ok,aJ _ _ _ _ _ _ HO.out.2.1 ok,aJ _ _ _ _ _ _ HO.out.2.2 ok⟩;obtain ⟨_,⟨⟨p0,p1,p2,p3,p4,p5⟩,p6⟩,⟨⟨q0,q1,q2,q3,q4,q5⟩,q6⟩⟩:=HO1.out;clear ok)
     go_ret;exact ⟨aC HR.out.symm,HO1.out.1⟩
 · have HR:Hid (bW n m=false):=by unfold Hid;rw [HA.out,xR hnm];rfl
   generalize bW n m=ab at*;generalize eqB n.cx m.cx=eb at*;clear hc hd hz HA;generalize n.cx.length=l1 at*;generalize m.cx.length=l2 at*
   go_enter Tryz.func71,Tryz.ntmps71
   go_wp2_with (go_at_call 123;refine (HE.out _ HO.out.1).mono ?_;rintro x w1 ⟨rfl,ok⟩;have HO1:Hid (Below w.heap.size w w1∧BxNd w1 w.heap.size n (.slice ac l1 cc) (.slice ae ke ce)∧BxNd w1 (w.heap.size+1) m (.slice uc' l2 cd) (.slice af kf cf)):=⟨aB HO.out.1 ok,aJ _ _ _ _ _ _ HO.out.2.1 ok,aJ _ _ _ _ _ _ HO.out.2.2 ok⟩;obtain ⟨_,⟨⟨p0,p1,p2,p3,p4,p5⟩,p6⟩,⟨⟨q0,q1,q2,q3,q4,q5⟩,q6⟩⟩:=HO1.out;clear ok)
   go_ret;exact ⟨aC HR.out.symm,HO1.out.1⟩
end Go.Proofs.YtpfemjlhklnfoaaGreatDoor
