/- Gf2, Gf3, Gv1, Pk2, Rd0, Ct0, Srt, Gd0, Ct2, Ct1, Ct4, ScNm1: their declarations that are needed, laid in one text, remarks and blanks left out. -/
import Derived.OneCell
import Derived.Shelf.SlSortCmp.NoneTotal
import Derived.Sort.OwnSorted
import Derived.Test.YtpfemjlhklnfoaaGreatDoorScA
import Derived.Lib.LazyBuf
import Derived.Deep.CutRange
import Derived.BigRegion
import Derived.DeepKeys4
import Derived.Maps.OwnSet
import Derived.Maps.RangeWalk
import Derived.Test.YtpfemjlhklnfoaaGreatDoorMg04
namespace Go.Proofs.YtpfemjlhklnfoaaGreatDoor
open Go.RowKit
set_option maxRecDepth 100000
noncomputable def jM (G:List Nd) (m:Nd):Int:=cE (fun n=>bW n m) G
set_option maxHeartbeats 1600000 in
theorem rV {G:List Nd} {v:Value} {nm:ByteArray} {a b c:Int} {cx:List Pn} {vc:Value} {w:World} (hG:NodesAt w v G) (hc:PinsAt w vc cx) (hz:G.length≤9223372036854775807) (hzl:∀ n ∈ G,SzN n):
 Calls Tryz.prog 29 #[.agg #[v],.string nm,.agg #[.int .i64 a,.int .i64 b,.int .i64 c],vc] w fun e w'=>e= .returned (.int .i64 (jM G ⟨nm,a,b,c,cx,[]⟩))∧Below w.heap.size w w':=by
 have HI:Hid (∀ w1,Below w.heap.size w w1→BxNd w1 (w.heap.size+2) ⟨nm,a,b,c,cx,[]⟩ vc (.slice none 0 0)→Calls Tryz.prog 68 #[v,.func (.func 69) #[] #[.pointer (some ⟨w.heap.size+2,0,none⟩)]] w1 fun e w'=>e= .returned (.int .i64 (jM G ⟨nm,a,b,c,cx,[]⟩))∧Below w1.heap.size w1 w'):=fun w1 hb hx=>
  wV (hG.below hb) hz fun w2 h2 x hxm ve vf h3 h4=>gE h3 h4 (aJ _ _ _ _ _ _ hx h2) ((hc.below hb).below h2) ⟨none,0,0,rfl⟩ (hzl x hxm).1
 obtain ⟨ad,cap,rfl⟩:=hG.sl;obtain ⟨ac,cc,rfl⟩:=hc.sl;clear hG hc hz hzl;generalize jM G ⟨nm,a,b,c,cx,[]⟩=r at*
 have HB:Hid (Below w.heap.size w (((w.alloc (.cells #[.slice ad G.length cap] 55)).alloc (.cells #[.int .i64 a,.int .i64 b,.int .i64 c] 31)).alloc (.cells #[.string nm,.int .i64 a,.int .i64 b,.int .i64 c,.slice ac cx.length cc,.slice none 0 0] 67))∧BxNd (((w.alloc (.cells #[.slice ad G.length cap] 55)).alloc (.cells #[.int .i64 a,.int .i64 b,.int .i64 c] 31)).alloc (.cells #[.string nm,.int .i64 a,.int .i64 b,.int .i64 c,.slice ac cx.length cc,.slice none 0 0] 67)) (w.heap.size+2) ⟨nm,a,b,c,cx,[]⟩ (.slice ac cx.length cc) (.slice none 0 0)):=
  ⟨tR _ _ _ _,BxNd.new (by simp) ⟨nm,a,b,c,cx,[]⟩ _ _⟩
 generalize cx.length=l1 at*
 go_enter Tryz.func29,Tryz.ntmps29
 go_wp2_with (go_at_call 68;refine (HI.out _ HB.out.1 HB.out.2).mono ?_;rintro e w1 ⟨rfl,ok⟩)
 go_ret;exact ⟨rfl,aB HB.out.1 ok⟩
noncomputable def dR:List Nd→List Nd→Bool
 |_,[]=>false
 |A,n::r=>A.any (fun x=>bW x n)||dR (A++[n]) r
theorem uQ {G:List Nd} {k:Nat} (hk:k<G.length):dR (G.take k) (G.drop k)=((G.take k).any (fun x=>bW x G[k])||dR (G.take (k+1)) (G.drop (k+1))):=by
 rw [List.drop_eq_getElem_cons hk,List.take_succ_eq_append_getElem hk];rfl
theorem NodesAt.part {w:World} {g o n cap:Nat} {G:List Nd} (hs:∀ i (h:i<G.length),∃ vc ve,NdIn w g (o+i*6) G[i] vc ve) (hg:g<w.heap.size) (hc:G.length≤cap) (hn:n≤G.length):NodesAt w (.slice (some ⟨g,o,none⟩) n cap) (G.take n):=
 ⟨_,cap,by rw [List.length_take,Nat.min_eq_left hn],by rw [List.length_take];omega,Or.inr ⟨g,o,rfl,hg,fun i hi=>by
   rw [List.getElem_take];exact hs i (by rw [List.length_take] at hi;omega)⟩⟩
set_option maxHeartbeats 3200000 in
theorem jU {G:List Nd} {v:Value} {w:World} (hG:NodesAt w v G) (hz:G.length≤9223372036854775807) (hzl:∀ n ∈ G,SzN n):
 Calls Tryz.prog 61 #[v] w fun e w'=>e= .returned (.bool (dR [] G))∧Below w.heap.size w w':=by
 have HS:Hid (∀ w1,Below w.heap.size w w1→NodesAt w1 v G):=fun w1 hb=>hG.below hb
 have HZ:=aA hzl;obtain ⟨ad,cap,rfl,hcap,_⟩:=hG;clear hzl
 go_enter Tryz.func61,Tryz.ntmps61
 go_wp2_with fail
 go_loopw [7] (fun i wr=>∃ k:Nat,k≤G.length∧i= .int .i64 k∧Below w.heap.size w wr∧dR [] G=dR (G.take k) (G.drop k)) (fun i _=>G.length - (intOf i).toNat)
 case atStart=>exact ⟨0,Nat.zero_le _,rfl,Below.refl _ _,rfl⟩
 case round=>
  obtain ⟨k,hk,rfl,hb,hst⟩:=hrel;have HB:=aA hb
  by_cases hlt:k<G.length
  · obtain ⟨ad',cap',e,_,hcs⟩:=HS.out wr hb
    cases e
    obtain ⟨g,o,rfl,hg,hcz⟩:∃ g o,ad=some ⟨g,o,none⟩∧g<wr.heap.size∧∀ i (h:i<G.length),∃ vc ve,NdIn wr g (o+i*6) G[i] vc ve:=by
     rcases hcs with h|h
     · rw [h] at hlt;simp at hlt
     · exact h
    clear hcs;have HPT:Hid (∀ w1,Below wr.heap.size wr w1→NodesAt w1 (.slice (some ⟨g,o,none⟩) k cap) (G.take k)):=fun w1 h1=>(NodesAt.part hcz hg hcap hk).below h1
    obtain ⟨vc,ve,hx⟩:=hcz k hlt
    have HST:Hid (dR [] G=((G.take k).any (fun x=>bW x G[k])||dR (G.take (k+1)) (G.drop (k+1)))):=by
     unfold Hid;rw [hst,uQ hlt]
    have HZK:Hid (∀ x ∈ G.take k,x.cx.length≤9223372036854775807):=fun x hx=>(HZ.out x (List.mem_of_mem_take hx)).1
    have HLT:Hid ((G.take k).length=k):=by unfold Hid;rw [List.length_take];omega
    clear hcz hst hb
    have HCC:Hid (∀ w1,Below wr.heap.size wr w1→BxNd w1 wr.heap.size G[k] vc ve→Calls Tryz.prog 110 #[.slice (some ⟨g,o,none⟩) k cap,.func (.func 111) #[] #[.pointer (some ⟨wr.heap.size,0,none⟩)]] w1 fun e w'=>e= .returned (.bool ((G.take k).any fun x=>bW x G[k]))∧Below w1.heap.size w1 w'):=fun w1 h1 hbx=>
     wX (HPT.out w1 h1) (by rw [HLT.out];omega) fun w2 h2 x hxm vd vf h3 h4=>dU h3 h4 (aJ _ _ _ _ _ _ hbx h2) ((hx.2.1.1.below h1).below h2) (let ⟨ad,cap,h⟩:=hx.2.1.2.sl;⟨ad,_,cap,h⟩) (HZK.out x hxm)
    generalize (G.take k).any (fun x=>bW x G[k])=b at*;obtain ⟨av,cv,rfl⟩:=hx.2.1.1.sl;obtain ⟨ae,ce,rfl⟩:=hx.2.1.2.sl;have HBX:Hid (Below wr.heap.size wr (wr.alloc (.cells #[.string G[k].nm,.int .i64 G[k].a,.int .i64 G[k].b,.int .i64 G[k].c,.slice av G[k].cx.length cv,.slice ae G[k].ed.length ce] 67))∧BxNd (wr.alloc (.cells #[.string G[k].nm,.int .i64 G[k].a,.int .i64 G[k].b,.int .i64 G[k].c,.slice av G[k].cx.length cv,.slice ae G[k].ed.length ce] 67)) wr.heap.size G[k] (.slice av G[k].cx.length cv) (.slice ae G[k].ed.length ce)):=⟨aD _ _,BxNd.new rfl _ _ _⟩;obtain ⟨⟨x0,x1,x2,x3,x4,x5⟩,_,x6⟩:=hx;clear HPT HZK HLT;generalize G[k]=x at*;generalize x.cx.length=l1 at*;generalize x.ed.length=l2 at*;have hkc:(k:Int)≤cap:=by omega
    cases b
    · have HR:Hid (dR [] G=dR (G.take (k+1)) (G.drop (k+1))):=HST.out
      clear HST
      go_wp2_with (go_at_call 110;refine (HCC.out _ HBX.out.1 HBX.out.2).mono ?_;rintro e w1 ⟨rfl,ok⟩)
      exact ⟨⟨k+1,by omega,by go_num,aB HB.out (aB (aD _ _) ok),HR.out⟩,by simp [intOf];omega⟩
    · have HR:Hid (dR [] G=true):=HST.out
      clear HST
      go_wp2_with (go_at_call 110;refine (HCC.out _ HBX.out.1 HBX.out.2).mono ?_;rintro e w1 ⟨rfl,ok⟩)
      go_ret;exact ⟨aC HR.out.symm,aB HB.out (aB (aD _ _) ok)⟩
  · have hke:k=G.length:=by omega
    subst hke;have HR:Hid (dR [] G=false):=by unfold Hid;rw [hst,List.drop_length];rfl
    clear hb hst
    go_wp2
    go_ret;exact ⟨aC HR.out.symm,HB.out⟩
def zB (G:List Nd) (t:Int):ByteArray:=match G[t.toNat]? with
 |some n=>n.nm
 |none=>⟨#[]⟩
theorem wY {G:List Nd} {t:Nat} (h:t<G.length):zB G (t:Int)=G[t].nm:=by
 unfold zB;rw [Int.toNat_natCast,List.getElem?_eq_getElem h]
def eW (G:List Nd) (e:Eg):Bool:=decide ((zB G e.to).toList=e.lb.toList)
def kR (G:List Nd):Bool:=G.all fun n=>n.ed.all (eW G)
def InG (G:List Nd):Prop:=∀ n ∈ G,∀ e ∈ n.ed,0≤e.to∧e.to<(G.length:Int)
theorem mC {α:Type} {p:α→Bool} {L:List α} {k:Nat} (hk:k<L.length):(L.drop k).all p=(p L[k]&&(L.drop (k+1)).all p):=by
 rw [List.drop_eq_getElem_cons hk];rfl
set_option maxHeartbeats 6400000 in
theorem fJ {G:List Nd} {v:Value} {w:World} (hG:NodesAt w v G) (hz:G.length≤9223372036854775807) (hzl:∀ n ∈ G,SzN n) (hin:InG G):
 Calls Tryz.prog 60 #[.agg #[v]] w fun e w'=>e= .returned (.bool (kR G))∧Below w.heap.size w w':=by
 have HS:Hid (∀ w1,Below w.heap.size w w1→NodesAt w1 v G):=fun w1 hb=>hG.below hb
 have HZ:=aA hzl;have HIN:=aA hin;obtain ⟨ad,cap,rfl,hcap,_⟩:=hG;have HB0:Hid (Below w.heap.size w (w.alloc (.cells #[.slice ad G.length cap] 55))∧BxG (w.alloc (.cells #[.slice ad G.length cap] 55)) w.heap.size (.slice ad G.length cap)):=⟨aD _ _,BxG.new rfl _⟩;clear hzl hin
 go_enter Tryz.func60,Tryz.ntmps60
 go_wp2_with fail
 go_loopw [10] (fun i wr=>∃ k:Nat,k≤G.length∧i= .int .i64 k∧(Below w.heap.size w wr∧BxG wr w.heap.size (.slice ad G.length cap))∧kR G=(G.drop k).all fun n=>n.ed.all (eW G)) (fun i _=>G.length - (intOf i).toNat)
 case atStart=>exact ⟨0,Nat.zero_le _,rfl,HB0.out,rfl⟩
 case round=>
  clear HB0;obtain ⟨k,hk,rfl,hb,hst⟩:=hrel;have HB:=aA hb
  by_cases hlt:k<G.length
  · obtain ⟨ad',cap',e,_,hcs⟩:=HS.out wr hb.1
    cases e
    obtain ⟨g,o,rfl,hg,hcz⟩:∃ g o,ad=some ⟨g,o,none⟩∧g<wr.heap.size∧∀ i (h:i<G.length),∃ vc ve,NdIn wr g (o+i*6) G[i] vc ve:=by
     rcases hcs with h|h
     · rw [h] at hlt;simp at hlt
     · exact h
    clear hcs;have HCZ:Hid (∀ w1,Below wr.heap.size wr w1→∀ i (h:i<G.length),∃ vc ve,NdIn w1 g (o+i*6) G[i] vc ve):=fun w1 h1 i hi=>let ⟨a,b,h⟩:=hcz i hi;⟨a,b,h.below h1⟩
    obtain ⟨vc,ve,hx⟩:=hcz k hlt
    have HST:Hid (kR G=(G[k].ed.all (eW G)&&(G.drop (k+1)).all fun n=>n.ed.all (eW G))):=by
     unfold Hid;rw [hst,mC hlt]
    have hle:=(HZ.out _ (List.getElem_mem hlt)).2;have HEI:=aA (HIN.out _ (List.getElem_mem hlt));clear hcz hst;obtain ⟨av,cv,rfl⟩:=hx.2.1.1.sl;obtain ⟨ae,ce,rfl⟩:=hx.2.1.2.sl;have HED:Hid (∀ w1,Below wr.heap.size wr w1→EdgesAt w1 (.slice ae G[k].ed.length ce) G[k].ed):=fun w1 h1=>hx.2.1.2.below h1
    obtain ⟨⟨x0,x1,x2,x3,x4,x5⟩,_,x6⟩:=hx;have HBB:Hid (Below wr.heap.size wr (wr.alloc (.cells #[.string G[k].nm,.int .i64 G[k].a,.int .i64 G[k].b,.int .i64 G[k].c,.slice av G[k].cx.length cv,.slice ae G[k].ed.length ce] 67))∧BxG (wr.alloc (.cells #[.string G[k].nm,.int .i64 G[k].a,.int .i64 G[k].b,.int .i64 G[k].c,.slice av G[k].cx.length cv,.slice ae G[k].ed.length ce] 67)) w.heap.size (.slice (some ⟨g,o,none⟩) G.length cap)):=⟨aD _ _,aW _ _ _ _ hb.2 (aD _ _)⟩;obtain ⟨_,y0,y1⟩:=hb;generalize G[k]=x at*;generalize hlx:x.ed.length=le at*;have HLX:=aA hlx;clear hlx;generalize x.cx.length=l1 at*;obtain ⟨wa,rfl⟩:∃ q,q=wr:=⟨wr,rfl⟩
    go_wp2_with fail
    clear x0 x1 x2 x3 x4 x5 x6 y0 y1
    go_loopw [17] (fun j wq=>∃ m:Nat,m≤le∧j= .int .i64 m∧(Below wa.heap.size wa wq∧BxG wq w.heap.size (.slice (some ⟨g,o,none⟩) G.length cap))∧x.ed.all (eW G)=(x.ed.drop m).all (eW G)) (fun j _=>le - (intOf j).toNat)
    case atStart=>exact ⟨0,Nat.zero_le _,rfl,HBB.out,rfl⟩
    case round=>
     clear HBB;obtain ⟨m,hm,rfl,hb2,hst2⟩:=hrel;have HB2:=aA hb2
     by_cases hml:m<le
     · have hmx:m<x.ed.length:=by have:=HLX.out;omega
       obtain ⟨gp,op,rfl,hcp,hei⟩:∃ gp op,ae=some ⟨gp,op,none⟩∧le≤ce∧EgIn wr gp (op+m*2) x.ed[m]:=by
        obtain ⟨a1,c1,hv,hc,hl⟩:=HED.out wr hb2.1;cases hv
        rcases hl with h|⟨g,o,rfl,_,hs⟩
        · rw [h] at hmx;cases hmx
        · exact ⟨g,o,rfl,by have:=HLX.out;omega,hs m hmx⟩
       obtain ⟨ht0,ht1⟩:=HEI.out _ (List.getElem_mem hmx);obtain ⟨t,ht⟩:=Int.eq_ofNat_of_zero_le ht0;have htl:t<G.length:=by omega
       obtain ⟨ud,uf,hnd⟩:=HCZ.out wr hb2.1 t htl
       have HST2:Hid (x.ed.all (eW G)=(eW G x.ed[m]&&(x.ed.drop (m+1)).all (eW G))):=by
        unfold Hid;rw [hst2,mC hmx]
       have HLE:Hid (eW G x.ed[m]=decide (G[t].nm.toList=x.ed[m].lb.toList)):=by
        unfold Hid eW;rw [ht,wY htl]
       generalize x.ed[m]=e at*;generalize eW G e=le1 at*;obtain ⟨elb,eto⟩:=e
       simp only at ht HLE
       subst ht;clear hst2 ht0 ht1;have HK:Hid (KeepP fun w1=>(Below wa.heap.size wa w1∧BxG w1 w.heap.size (.slice (some ⟨g,o,none⟩) G.length cap))∧BxEg w1 wr.heap.size ⟨elb,(t:Int)⟩∧NdIn w1 g (o+t*6) G[t] ud uf):=((aL _).and (aW _ _)).and ((uG _ _).and (fun _ _ h hb=>h.below hb))
       have HO:Hid ((Below wa.heap.size wa (wr.alloc (.cells #[.string elb,.int .i64 (t:Int)] 77))∧BxG (wr.alloc (.cells #[.string elb,.int .i64 (t:Int)] 77)) w.heap.size (.slice (some ⟨g,o,none⟩) G.length cap))∧BxEg (wr.alloc (.cells #[.string elb,.int .i64 (t:Int)] 77)) wr.heap.size ⟨elb,(t:Int)⟩∧NdIn (wr.alloc (.cells #[.string elb,.int .i64 (t:Int)] 77)) g (o+t*6) G[t] ud uf):=
        ⟨⟨aB hb2.1 (aD _ _),aW _ _ _ _ hb2.2 (aD _ _)⟩,BxEg.new rfl ⟨elb,(t:Int)⟩,hnd.below (aD _ _)⟩
       obtain ⟨⟨e0,e1⟩,e6⟩:=hei
       simp only at e0 e1
       have hti:(t:Int)<G.length:=by omega
       have ht0:(0:Int)≤t:=by omega
       clear hnd hb2;generalize G[t]=y at*
       by_cases hnm:y.nm.toList=elb.toList
       · have HR:Hid (x.ed.all (eW G)=(x.ed.drop (m+1)).all (eW G)):=by unfold Hid;rw [HST2.out,HLE.out,decide_eq_true hnm];rfl
         clear HST2 HLE
         go_wp2_with fail
         clear e0 e1 e6;refine aX HK (by kernel_rfl) (by kernel_rfl) (by first|exact HO.out|exact HK.out.drew HO.out) ?_;intro C HIN HOUT;clear HO
         repeat
          (with_reducible refine wpQuiet_step (fun K hK=> ?_)
           go_simp
           first
            |(refine hK _ ?_;clear hK K)
            |(apply Exists.intro;refine ⟨fun w1 hC=> ?_,hK _ ?_⟩;(focus ((first|(exact rfl)|(obtain ⟨⟨hb1,y0,y1⟩,⟨⟨z0,z1⟩,z2⟩,⟨⟨x0,x1,x2,x3,x4,x5⟩,_,x6⟩⟩:=HOUT.out w1 hC;clear hC;go_simp;first|done|exact rfl));done));clear hK K))
         refine wpQuiet_nil ?_;intro wn hC;have HO:=aA (HOUT.out _ hC);clear hC HIN HOUT C;obtain ⟨⟨hb1,y0,y1⟩,⟨⟨z0,z1⟩,z2⟩,⟨⟨x0,x1,x2,x3,x4,x5⟩,_,x6⟩⟩:=HO.out
         go_wp2
         exact ⟨⟨m+1,by omega,by go_num,HO.out.1,HR.out⟩,by simp [intOf];omega⟩
       · have HR:Hid (kR G=false):=by unfold Hid;rw [HST.out,HST2.out,HLE.out,decide_eq_false hnm];rfl
         have hnm2:(y.nm.toList==elb.toList)=false:=by simp [hnm]
         clear HST2 HLE
         go_wp2_with fail
         clear e0 e1 e6;refine aX HK (by kernel_rfl) (by kernel_rfl) (by first|exact HO.out|exact HK.out.drew HO.out) ?_;intro C HIN HOUT;clear HO
         repeat
          (with_reducible refine wpQuiet_step (fun K hK=> ?_)
           go_simp
           first
            |(refine hK _ ?_;clear hK K)
            |(apply Exists.intro;refine ⟨fun w1 hC=> ?_,hK _ ?_⟩;(focus ((first|(exact rfl)|(obtain ⟨⟨hb1,y0,y1⟩,⟨⟨z0,z1⟩,z2⟩,⟨⟨x0,x1,x2,x3,x4,x5⟩,_,x6⟩⟩:=HOUT.out w1 hC;clear hC;go_simp;first|done|exact rfl));done));clear hK K))
         refine wpQuiet_nil ?_;intro wn hC;have HO:=aA (HOUT.out _ hC);clear hC HIN HOUT C;obtain ⟨⟨hb1,y0,y1⟩,⟨⟨z0,z1⟩,z2⟩,⟨⟨x0,x1,x2,x3,x4,x5⟩,_,x6⟩⟩:=HO.out
         go_wp2
         go_ret;exact ⟨aC HR.out.symm,aB HB.out.1 hb1⟩
     · have hme:m=le:=by omega
       subst hme
       have HR:Hid (kR G=(G.drop (k+1)).all fun n=>n.ed.all (eW G)):=by
        have e:x.ed.drop m=[]:=by rw [←HLX.out,List.drop_length]
        unfold Hid;rw [HST.out,hst2,e];rfl
       clear hst2 hb2
       go_wp2
       exact ⟨⟨k+1,by omega,by go_num,⟨aB HB.out.1 HB2.out.1,HB2.out.2⟩,HR.out⟩,by simp [intOf];omega⟩
  · have hke:k=G.length:=by omega
    subst hke;have HR:Hid (kR G=true):=by unfold Hid;rw [hst,List.drop_length];rfl
    clear hst;obtain ⟨_,y0,y1⟩:=hb
    go_wp2
    go_ret;exact ⟨aC HR.out.symm,HB.out.1⟩
theorem dL (f:Nat→Nat):∀ (n:Nat) (S:List Nat),S.Nodup→(∀ x ∈ S,x<n)→(S.map f).sum≤((List.range n).map f).sum
 |0,S,_,h=>by
  cases S with
  |nil=>simp
  |cons a r=>exact absurd (h a (by simp)) (by omega)
 |n+1,S,hd,h=>by
  rw [List.range_succ,List.map_append,List.sum_append]
  by_cases hn:n ∈ S
  · have hp:=List.perm_cons_erase hn
    have e:(S.map f).sum=f n+((S.erase n).map f).sum:=by
     rw [(hp.map f).sum_nat]
     simp
    have ih:=dL f n (S.erase n) (hd.erase n) (fun x hx=>by
     have q:=(hd.mem_erase_iff).1 hx
     have:=h x q.2
     omega)
    simp only [List.map_cons,List.map_nil,List.sum_cons,List.sum_nil];omega
  · have ih:=dL f n S hd (fun x hx=>by
     have:=h x hx
     have:x≠n:=fun e=>hn (e ▸ hx)
     omega)
    simp only [List.map_cons,List.map_nil,List.sum_cons,List.sum_nil];omega
theorem iL:∀ (L:List Nat),(L.map fun _=>1).sum=L.length
 |[]=>rfl
 |a::r=>by rw [List.map_cons,List.sum_cons,iL r,List.length_cons];omega
theorem oL {n:Nat} {S:List Nat} (hd:S.Nodup) (h:∀ x ∈ S,x<n):S.length≤n:=by
 have q:=dL (fun _=>1) n S hd h;rw [iL,iL,List.length_range] at q;exact q
def gW (n:Nat) (S:List Nat) (t:Int):List Nat:=if 0≤t∧t<(n:Int)∧t.toNat ∉ S then S++[t.toNat] else S
def fK (n:Nat) (S:List Nat) (es:List Eg):List Nat:=es.foldl (fun S e=>gW n S e.to) S
def edA (G:List Nd) (i:Nat):List Eg:=match G[i]? with
 |some n=>n.ed
 |none=>[]
theorem oM {G:List Nd} {i:Nat} (h:i<G.length):edA G i=G[i].ed:=by
 unfold edA;rw [List.getElem?_eq_getElem h]
def uR (G:List Nd):Nat→Nat→List Nat→List Nat
 |0,_,S=>S
 |f+1,i,S=>match S[i]? with
  |none=>S
  |some q=>uR G f (i+1) (fK G.length S (edA G q))
def zC (G:List Nd):List Nat:=uR G G.length 0 [0]
def cP (G:List Nd):List Nat:=if G.length=0 then [] else (List.range G.length).filter fun i=>decide (i ∈ zC G)
structure RI (n:Nat) (S:List Nat):Prop where
 nd:S.Nodup
 lt:∀ x ∈ S,x<n
theorem RI.len {n:Nat} {S:List Nat} (h:RI n S):S.length≤n:=oL h.nd h.lt
theorem RI.one {n:Nat} (h:0<n):RI n [0]:=⟨by simp,fun x hx=>by rw [List.mem_singleton.1 hx];exact h⟩
theorem mD {n:Nat} {S:List Nat} {t:Int} (h:¬ (0≤t∧t<(n:Int))):gW n S t=S:=by
 unfold gW;rw [if_neg fun q=>h ⟨q.1,q.2.1⟩]
theorem uS {n:Nat} {S:List Nat} {t:Nat} (h:t ∈ S):gW n S (t:Int)=S:=by
 unfold gW;rw [if_neg fun q=>q.2.2 (by rw [Int.toNat_natCast];exact h)]
theorem mE {n:Nat} {S:List Nat} {t:Nat} (ht:t<n) (h:t ∉ S):gW n S (t:Int)=S++[t]:=by
 unfold gW;rw [if_pos ⟨by omega,by omega,by rw [Int.toNat_natCast];exact h⟩,Int.toNat_natCast]
theorem RI.snoc {n:Nat} {S:List Nat} {t:Nat} (h:RI n S) (ht:t<n) (hn:t ∉ S):RI n (S++[t]):=
 ⟨List.nodup_append.2 ⟨h.nd,by simp,fun a ha b hb e=>hn (by rw [List.mem_singleton.1 hb] at e;exact e ▸ ha)⟩,fun x hx=>by
   rcases List.mem_append.1 hx with q|q
   · exact h.lt x q
   · rw [List.mem_singleton.1 q];exact ht⟩
theorem jV {n:Nat} {S:List Nat} {es:List Eg} {j:Nat} (hj:j<es.length):fK n S (es.drop j)=fK n (gW n S es[j].to) (es.drop (j+1)):=by
 rw [List.drop_eq_getElem_cons hj];rfl
structure RJ (G:List Nd) (i:Nat) (S:List Nat):Prop where
 ri:RI G.length S
 le:i≤S.length
 go:uR G (G.length - i) i S=zC G
theorem RJ.one {G:List Nd} (h:0<G.length):RJ G 0 [0]:=⟨RI.one h,Nat.zero_le _,rfl⟩
theorem RJ.done {G:List Nd} {S:List Nat} (h:RJ G S.length S):S=zC G:=by
 rw [←h.go];cases hn:G.length - S.length with
 |zero=>rfl
 |succ f=>
  unfold uR;rw [List.getElem?_eq_none (Nat.le_refl _)]
theorem RJ.next {G:List Nd} {i:Nat} {S S':List Nat} (h:RJ G i S) (hi:i<S.length) (hS:fK G.length S (edA G S[i])=S') (hr:RI G.length S') (hl:i+1≤S'.length):RJ G (i+1) S':=by
 refine ⟨hr,hl,?_⟩;have hn:=h.ri.len;rw [←h.go,show G.length - i=(G.length - (i+1))+1 by omega]
 conv=>rhs;unfold uR
 rw [List.getElem?_eq_getElem hi]
 simp only
 rw [hS]
def wZ (G:List Nd):Nat:=((List.range G.length).map fun i=>(edA G i).length).sum
def jN (G:List Nd) (S:List Nat):Nat:=(S.map fun i=>(edA G i).length).sum
theorem RI.deg {G:List Nd} {S:List Nat} (h:RI G.length S) (i:Nat):jN G (S.take i)≤wZ G:=
 dL _ _ _ (List.Nodup.sublist (List.take_sublist i S) h.nd) fun x hx=>h.lt x (List.mem_of_mem_take hx)
theorem rW {G:List Nd} {S:List Nat} {i:Nat} (hi:i<S.length):jN G (S.take (i+1))=jN G (S.take i)+(edA G S[i]).length:=by
 unfold jN;rw [List.take_succ_eq_append_getElem hi,List.map_append,List.sum_append]
 simp
theorem xA {l:List Nat} {R:Nat→Nat→Prop} {Q:Int→Int→Prop} (hq:∀ a b:Nat,R a b→Q (a:Int) (b:Int)) (h:l.Pairwise R):(l.map fun x:Nat=>(x:Int)).Pairwise Q:=List.pairwise_map.2 (h.imp fun {a b} r=>hq a b r)
theorem xB {n:Nat} {S:List Nat} (h:RI n S):(S.map fun x:Nat=>(x:Int)).mergeSort (fun x y=>decide (x≤y))=((List.range n).filter fun i=>decide (i ∈ S)).map fun x:Nat=>(x:Int):=by
 have h1:((S.map fun x:Nat=>(x:Int)).mergeSort (fun x y=>decide (x≤y))).Pairwise fun a b=>decide (a≤b)=true:=List.pairwise_mergeSort (fun a b c=>by simp only [decide_eq_true_eq];omega) (fun a b=>by simp only [Bool.or_eq_true,decide_eq_true_eq];omega) _
 have h2:(((List.range n).filter fun i=>decide (i ∈ S)).map fun x:Nat=>(x:Int)).Pairwise fun a b=>decide (a≤b)=true:=
  xA (R:=fun a b=>a<b) (fun a b hab=>by rw [decide_eq_true_eq];omega) (List.pairwise_lt_range.filter _)
 refine List.Perm.eq_of_pairwise (le:=fun a b=>decide (a≤b)=true) (fun a b _ _ q1 q2=>by rw [decide_eq_true_eq] at q1 q2;omega) h1 h2 ?_;refine (List.mergeSort_perm _ _).trans ?_;refine List.Perm.map _ ?_;refine (List.perm_ext_iff_of_nodup h.nd (List.Nodup.sublist List.filter_sublist List.nodup_range)).2 fun x=> ?_
 rw [List.mem_filter,List.mem_range,decide_eq_true_eq];exact ⟨fun q=>⟨h.lt x q,q⟩,fun q=>q.2⟩
structure Dp where
 nm:ByteArray
 rg:List Sp
theorem SpansAt.sl {w:World} {v:Value} {L:List Sp} (h:SpansAt w v L):∃ ad cap,v= .slice ad L.length cap:=by
 obtain ⟨ad,cap,rfl,_⟩:=h;exact ⟨ad,cap,rfl⟩
def DpIn (w:World) (g o:Nat) (d:Dp) (u:Value):Prop:=w.cell? ⟨g,o,none⟩=some (.string d.nm)∧w.cell? ⟨g,o+1,none⟩=some u∧(SpansC w u d.rg∧d.rg.length≤9223372036854775807)∧g<w.heap.size
def DepsAt (w:World) (v:Value) (L:List Dp):Prop:=∃ ad cap,v= .slice ad L.length cap∧L.length≤cap∧(L=[]∨∃ g o,ad=some ⟨g,o,none⟩∧g<w.heap.size∧∀ i (h:i<L.length),∃ u,DpIn w g (o+i*2) L[i] u)
theorem DpIn.below {w w':World} {g o:Nat} {d:Dp} {u:Value} (h:DpIn w g o d u) (hb:Below w.heap.size w w'):DpIn w' g o d u:=
 ⟨(hb.cell (p:=⟨g,o,none⟩) h.2.2.2).trans h.1,(hb.cell (p:=⟨g,o+1,none⟩) h.2.2.2).trans h.2.1,⟨⟨h.2.2.1.1.1.below hb,h.2.2.1.1.2⟩,h.2.2.1.2⟩,Nat.lt_of_lt_of_le h.2.2.2 hb.size⟩
theorem DepsAt.below {w w':World} {v:Value} {L:List Dp} (h:DepsAt w v L) (hb:Below w.heap.size w w'):DepsAt w' v L:=by
 obtain ⟨ad,cap,hv,hc,hl⟩:=h;refine ⟨ad,cap,hv,hc,hl.imp id ?_⟩;rintro ⟨g,o,ha,hg,hs⟩;exact ⟨g,o,ha,Nat.lt_of_lt_of_le hg hb.size,fun i hi=>(hs i hi).imp fun u hu=>hu.below hb⟩
theorem uT (v:Value) (L:List Dp):KeepP fun w1=>DepsAt w1 v L:=fun _ _ h hb=>h.below hb
def BxD (w:World) (N:Nat) (s:ByteArray) (u:Value):Prop:=w.cell? ⟨N,0,none⟩=some (.string s)∧w.cell? ⟨N,1,none⟩=some u∧N<w.heap.size
theorem xC (N:Nat) (s:ByteArray) (u:Value):KeepP fun w1=>BxD w1 N s u:=fun _ _ h hb=>
 ⟨(hb.cell (p:=⟨N,0,none⟩) h.2.2).trans h.1,(hb.cell (p:=⟨N,1,none⟩) h.2.2).trans h.2.1,Nat.lt_of_lt_of_le h.2.2 hb.size⟩
theorem BxD.new {w:World} {N:Nat} (hN:w.heap.size=N) (s:ByteArray) (u:Value):BxD (w.alloc (.cells #[.string s,u] 89)) N s u:=by
 subst hN;exact ⟨by simp,by simp,by simp⟩
theorem DepsAt.sl {w:World} {v:Value} {L:List Dp} (h:DepsAt w v L):∃ ad cap,v= .slice ad L.length cap:=by
 obtain ⟨ad,cap,rfl,_⟩:=h;exact ⟨ad,cap,rfl⟩
theorem zD {w w':World} {B:Nat} {e:TypeId} {z:Nat} {v:Value} {n:Nat} {xs:List Value} (h:w.ownsRow B e z v n xs) (hk:∀ g,v.ownBlock=some g→w'.heap[g]? =w.heap[g]?):w'.ownsRow B e z v n xs:=by
 refine ⟨h.1,?_⟩
 rcases h.2 with hn|⟨g,cap,cur,rfl,hB,hgg,r⟩
 · exact Or.inl hn
 · exact Or.inr ⟨g,cap,cur,rfl,hB,(hk g rfl).trans hgg,r⟩
theorem dE {w w':World} {B:Nat} {e:TypeId} {z:Nat} {v:Value} {n:Nat} {xs:List Value} (h:w.ownsRow B e z v n xs) (hb:Below w.heap.size w w'):w'.ownsRow B e z v n xs:=zD h fun g hg=>hb.block g (h.lt g hg).2
theorem dF {w:World} {B C:Nat} {e:TypeId} {z:Nat} {v:Value} {n:Nat} {xs:List Value} (h:w.ownsRow B e z v n xs) (hc:C≤B):w.ownsRow C e z v n xs:=by
 refine ⟨h.1,?_⟩
 rcases h.2 with hn|⟨g,cap,cur,hv,hB,r⟩
 · exact Or.inl hn
 · exact Or.inr ⟨g,cap,cur,hv,Nat.le_trans hc hB,r⟩
theorem zF {w:World} {B B':Nat} {e e':TypeId} {z z':Nat} {v v':Value} {n n':Nat} {xs xs':List Value} (h:w.ownsRow B e z v n xs) (h':w.ownsRow B' e' z' v' n' xs') (hne:e≠e') {g:Nat} (hg:v.ownBlock=some g):v'.ownBlock≠some g:=by
 intro hg'
 rcases h.2 with ⟨rfl,_⟩|⟨g1,cap,cur,rfl,_,hgg,_⟩
 · cases hg
 · rcases h'.2 with ⟨rfl,_⟩|⟨g2,cap',cur',rfl,_,hgg',_⟩
   · cases hg'
   · cases hg
     cases hg';rw [hgg] at hgg';injection hgg' with e1
     injection e1 with _ e2 _
     exact hne e2
theorem dG {w w' w1:World} {row:Option Nat} (hb:Below w.heap.size w w') (hg:w'.grownBy w1 row):w.grownBy w1 row:=
 ⟨hg.os.trans hb.os,hg.tape.trans hb.tape,hg.output.trans hb.output,Nat.le_trans hb.size hg.size,fun k hk hn=>(hg.block k (Nat.lt_of_lt_of_le hk hb.size) hn).trans (hb.block k hk)⟩
theorem dV {B:Nat} {w w1:World} {own:Option Nat} (hg:w.grownBy w1 own) (h:∀ g,own=some g→B≤g) (hB:B≤w.heap.size):Below B w w1:=⟨hg.os,hg.tape,hg.output,hg.size,fun k hk=>hg.block k (by omega) (fun e=>by have:=h k e.symm;omega)⟩
theorem uU {B:Nat} {wx:World} {elt slt:TypeId} {z:Value} {sz bs n:Nat} {v:Value} {xs:List Value} {ops:Array Oper} {o:Oper} {f:Act} {K:Act→World→Prop} {Q:Exit→Act→World→Prop} {E:Prop}
 (hinfo:(Tryz.prog.info? elt).map (fun i=>(i.zero,i.size,i.bytes))=some (some z,sz,bs)) (hund:Tryz.prog.underlying slt=some (.slice elt)) (hzc:z.cells.size=sz) (hsz:0<sz) (hbs:bs≤1000)
 (hgd:o.guard=none) (s t:Operand) (ho:o.op= .call { callee:= .builtin .append,args:= #[s,t],argTypes:= #[slt,slt] }) (hs:f.eval s=v)
 (hown:wx.ownsRow B elt sz v n xs) (hB:B≤wx.heap.size) (cs:Array Value) (hcs:cs.size=sz) (hone:∀ u ∈ cs.toList,u.oneCell'=true) {M:Nat} (hM:wx.heap.size=M) (hx:f.eval t= .slice (some ⟨M,0,none⟩) 1 1) (hlen:n≤1000000000)
 (h:∀ v1 w1,w1.ownsRow B elt sz v1 (n+1) (xs++cs.toList)→(wx.alloc (.cells cs elt)).grownBy w1 v.ownBlock→(v1.ownBlock=v.ownBlock∨v1.ownBlock=some (wx.heap.size+1))→K (f.put o.dst v1) w1):
 if Region.wanted o (yielded ops f.tmps)=true then Oper.wp Tryz.prog o f (wx.alloc (.cells cs elt)) K Q else E:=by
 have hw:Region.wanted o (yielded ops f.tmps)=true:=by simp [Region.wanted,hgd]
 rw [if_pos hw];subst hM;obtain ⟨i0,hi,hz0,hz1,hz2⟩:=Sc.bN hinfo;have hsz1:(wx.alloc (.cells cs elt)).heap.size=wx.heap.size+1:=by simp
 have hbb:(n+1)*bs≤140737488355328:=by
  have:=Nat.mul_le_mul (show n+1≤1000000001 by omega) hbs
  omega
 obtain ⟨v1,w1,hr,hown1,hg1,_,hat⟩:=run_append_own_at (P:=Tryz.prog) (wx.alloc (.cells cs elt)) B slt o.type elt i0 z sz bs hund hi hz0 hz1 hz2 hzc hsz v n xs (hown.alloc _) ⟨wx.heap.size,0,none⟩ 1 1 cs.toList (by rw [Array.length_toList,hcs,Nat.one_mul])
  (World.news_of_block (cs:=cs) (t:=elt) (fr:=(0,0)) (by show (wx.heap.push _)[wx.heap.size]? =_;rw [Array.getElem?_push,if_pos rfl])) hone (by unfold maxLen;omega) hbb (by omega)
 unfold Oper.wp execOp;simp only [ho,resolve,invoke,builtin,Sem.run_bind,Sem.run_pure,Result.andThen_ok,List.map_toArray,List.map_cons,List.map_nil,hs,hx,hr];exact h v1 w1 hown1 hg1 (by rw [hsz1] at hat;exact hat)
theorem xD {B:Nat} {wx:World} {elt slt:TypeId} {z:Value} {sz bs n m c:Nat} {v:Value} {xs news:List Value} {ad:Addr} {ops:Array Oper} {rest:List Oper} {o:Oper} {f:Act} {Q:Exit→Act→World→Prop}
 (hinfo:(Tryz.prog.info? elt).map (fun i=>(i.zero,i.size,i.bytes))=some (some z,sz,bs)) (hund:Tryz.prog.underlying slt=some (.slice elt)) (hzc:z.cells.size=sz) (hsz:0<sz) (hbs:bs≤1000)
 (hgd:o.guard=none) (s t:Operand) (ho:o.op= .call { callee:= .builtin .append,args:= #[s,t],argTypes:= #[slt,slt] }) (hs:f.eval s=v)
 (hown:wx.ownsRow B elt sz v n xs) (hB:B≤wx.heap.size) (hx:f.eval t= .slice (some ad) m c) (hl:news.length=m*sz) (hnews:∀ j u,news[j]? =some u→wx.cell? (ad.add j)=some u) (hone:∀ u ∈ news,u.oneCell'=true) (hlen:n+m≤1000000000)
 (h:∀ v1 w1,w1.ownsRow B elt sz v1 (n+m) (xs++news)→wx.grownBy w1 v.ownBlock→(v1.ownBlock=v.ownBlock∨v1.ownBlock=some wx.heap.size)→wpList Tryz.prog ops Q rest (f.put o.dst v1) w1):
 wpList Tryz.prog ops Q (o::rest) f wx:=by
 obtain ⟨i0,hi,hz0,hz1,hz2⟩:=Sc.bN hinfo
 have hbb:(n+m)*bs≤140737488355328:=by
  have:=Nat.mul_le_mul hlen hbs
  omega
 refine wpList_append_own_at _ hgd s t slt ho B elt i0 z sz bs hund hi hz0 hz1 hz2 hzc hsz v n xs hs hown ad m c news hx hl hnews hone (by unfold maxLen;omega) hbb hB ?_;intro v1 w1 hown1 hg1 _ hat;exact h v1 w1 hown1 hg1 hat
end Go.Proofs.YtpfemjlhklnfoaaGreatDoor
namespace Go.Proofs.YtpfemjlhklnfoaaGreatDoor
open Go.Shelf Go.RowKit Go.Lib Go.Sort
set_option maxRecDepth 100000
theorem cK {α:Type} (enc:α→List Value) (k:Nat) (hk:∀ x,(enc x).length=k) (l:List α):(l.flatMap enc).length=l.length*k:=by
 induction l with
 |nil=>simp
 |cons x t ih=>rw [List.flatMap_cons,List.length_append,hk,ih,List.length_cons,Nat.succ_mul];omega
variable {α:Type} [Inhabited α]
theorem bY (enc:α→List Value) (k:Nat) (hk:∀ x,(enc x).length=k):∀ (l:List α) (i r:Nat),i<l.length→r<k→(l.flatMap enc)[i*k+r]? =(enc (l[i]!))[r]?
 |[],i,r,h,_=>by cases h
 |x::t,0,r,_,hr=>by
  rw [List.flatMap_cons,List.getElem?_append_left (by rw [hk];omega)]
  simp
 |x::t,i+1,r,h,hr=>by
  rw [List.flatMap_cons,List.getElem?_append_right (by rw [hk,Nat.succ_mul];omega),hk];have e:(i+1)*k+r - k=i*k+r:=by rw [Nat.succ_mul];omega
  rw [e,bY enc k hk t i r (by simpa using h) hr]
  simp
theorem mF (enc:α→List Value) (k:Nat) (hk:∀ x,(enc x).length=k) (hk0:0<k) (d:Array α):(flatK enc k d).toList=d.toList.flatMap enc:=by
 apply List.ext_getElem?;intro t
 by_cases ht:t<d.size*k
 · have hq:t / k<d.toList.length:=by rw [Array.length_toList];exact (Nat.div_lt_iff_lt_mul hk0).2 ht
   have hr:=Nat.mod_lt t hk0
   have hf:(flatK enc k d).toList[t]? =some ((enc d[t / k]!)[t % k]!):=by
    rw [Array.getElem?_toList]
    have:(flatK enc k d)[t]! =(enc d[t / k]!)[t % k]! :=get_flatK _ _ _ _ ht
    rw [←this,getElem!_pos _ t (by simpa using ht)];exact Array.getElem?_eq_getElem (by simpa using ht)
   have hg:=bY enc k hk d.toList (t / k) (t % k) hq hr;rw [Nat.mul_comm,Nat.div_add_mod] at hg;have hd:d.toList[t / k]! =d[t / k]! :=by rw [getElem!_pos d (t / k) (by simpa using hq),getElem!_pos d.toList (t / k) hq];simp
   rw [hf,hg,hd,List.getElem?_eq_getElem (by rw [hk];exact hr),getElem!_pos _ (t % k) (by rw [hk];exact hr)]
 · rw [List.getElem?_eq_none (by simp;omega),List.getElem?_eq_none (by rw [cK enc k hk];simp;omega)]
theorem rX (enc:α→List Value) (k:Nat) (hk:∀ x,(enc x).length=k) (hk0:0<k) {w:World} {g:Nat} {cur:Array Value} {e:TypeId} {fs:List α} (hb:w.heap[g]? =some (.cells cur e (0,0))) (ht:cur.toList.take (fs.length*k)=fs.flatMap enc):HoldsK enc k w g 0 fs.toArray:=by
 intro j hj;have hj':j<fs.length*k:=by simpa using hj
 refine ⟨?_,by simp [World.frozen?,hb]⟩;have h1:(cur.toList.take (fs.length*k))[j]? =(fs.flatMap enc)[j]? :=by rw [ht]
 rw [List.getElem?_take_of_lt hj'] at h1;simp only [World.cell?,hb,Nat.zero_add];simp only [Option.isSome_none,Bool.false_eq_true,if_false];rw [←Array.getElem?_toList,h1];have e:=mF enc k hk hk0 fs.toArray;rw [List.toList_toArray] at e;rw [←e,Array.getElem?_toList,getElem!_pos _ j hj];exact Array.getElem?_eq_getElem hj
theorem uV (enc:α→List Value) (k:Nat) {w:World} {g n:Nat} {os:Array Obj} {cur:Array Value} {e:TypeId} {fr:Nat×Nat} (d:Array α) (hb:w.heap[g]? =some (.cells cur e fr)):
 (sortWorldK enc k w g 0 n d os).heap[g]? =some (.cells (putCells id 0 (flatK enc k d) cur) e fr):=by
 have hg:g<w.heap.size:=(Array.getElem?_eq_some_iff.1 hb).1;unfold sortWorldK putRowK;rw [heap_grow_old _ _ (by simpa using hg)];simp [putRow,mapBlock,Sort.ahead,Array.getElem?_modify,hb,onCells]
theorem rY (enc:α→List Value) (k:Nat) {w:World} {g n:Nat} {os:Array Obj} (d:Array α):w.grownBy (sortWorldK enc k w g 0 n d os) (some g):=by
 unfold sortWorldK putRowK;refine ⟨rfl,rfl,rfl,by simp,fun j hj hne=> ?_⟩;rw [heap_grow_old _ _ (by simpa using hj)]
 have:g≠j:=fun e=>hne (by rw [e])
 simp [putRow,mapBlock,Sort.ahead,Array.getElem?_modify,this]
theorem uW (cur:Array Value) (F:Array Value) (h:F.size≤cur.size):(putCells id 0 F cur).toList.take F.size=F.toList:=by
 apply List.ext_getElem?;intro j
 by_cases hj:j<F.size
 · rw [List.getElem?_take_of_lt hj,Array.getElem?_toList,Array.getElem?_toList]
   simp [putCells,hj,show j<cur.size by omega]
 · rw [List.getElem?_take_eq_none (by omega),List.getElem?_eq_none (by simp;omega)]
theorem rZ {d d':Array α} (h:PermIn 0 d.size d d'):d'.toList.Perm d.toList:=by
 obtain ⟨hsz,_,hperm⟩:=h;have e1:d'.extract 0 d.size=d':=by rw [←hsz];exact Array.extract_size
 rw [e1,Array.extract_size] at hperm;exact hperm
theorem mG {lt:α→α→Bool} {d d':Array α} (h:PermIn 0 d.size d d') (hS:SortedIn lt 0 d.size d'):d'.toList.Pairwise fun x y=>lt y x=false:=by
 have hsz:=h.1;rw [List.pairwise_iff_getElem];intro i j hi hj hij;have hi':i<d'.size:=by simpa using hi
 have hj':j<d'.size:=by simpa using hj
 have:=hS i j (Nat.zero_le _) hij (by omega)
 rw [getElem!_pos d' j hj',getElem!_pos d' i hi'] at this
 simpa using this
theorem uX {ρ:Ren} (L:SlLaysF0.n6 Tryz.prog ρ) (k:Nat) (hk0:0<k) (aE:∀ w,(isAgg (ρ.t 24)).run Tryz.prog w= .ok true w) (zE:∀ w,(Go.sizeOf (ρ.t 24)).run Tryz.prog w= .ok k w) (enc:α→List Value) (hk:∀ x,(enc x).length=k) (h1:∀ x,∀ v ∈ enc x,v.oneCell'=true) (cf:α→α→Int) (hO:SWO (ltOf cf)) (g:Nat)
 (eg:∀ args w,(callFunc g args).run Tryz.prog w= .ok (.enter g args) w) (hcmp:∀ (x y:α) (W:World),Calls Tryz.prog g #[.agg (enc x).toArray,.agg (enc y).toArray] W fun e w'=>e= .returned (.int .i64 (cf x y))∧∃ q os',w'=grow (W.drewN q) os')
 {w:World} {base:Nat} {T:TypeId} {v:Value} {fs:List α} (hown:w.ownsRow base T k v fs.length (fs.flatMap enc)) (hz:fs.length<4611686018427387904):
 Calls Tryz.prog (ρ.f 6) #[v,.func (.func g) #[] #[]] w fun e w'=>e= .returned (.tuple #[])∧∃ ts:List α,ts.Perm fs∧(ts.Pairwise fun x y=>ltOf cf y x=false)∧w'.ownsRow base T k v ts.length (ts.flatMap enc)∧w.grownBy w' v.ownBlock:=by
 rcases hown.2 with ⟨hv,hn⟩|⟨b,cap,cur,hv,hB,hgg,hc1,hc2,hc3,hc4⟩
 · obtain rfl:fs=[]:=List.length_eq_zero_iff.1 hn
   subst hv;refine (AnyF.slices_SortFunc_none L none 0 (.func (.func g) #[] #[]) w).mono ?_;rintro e w' ⟨rfl,rfl⟩;exact ⟨rfl,[],List.Perm.refl _,List.Pairwise.nil,hown,⟨rfl,rfl,rfl,Nat.le_refl _,fun _ _ _=>rfl⟩⟩
 · subst hv
   have hH:=rX enc k hk hk0 hgg hc4;have hcon:=AnyQ.slices_SortFunc L k aE zE enc hk h1 cf hO g #[] b 0 cap fs.toArray w eg (fun m os dk _ x y=>by simpa using hcmp x y _) hH (Array.getElem?_eq_some_iff.1 hgg).1 (by simp;omega);simp only [List.size_toArray] at hcon;refine hcon.mono ?_;rintro e w' ⟨rfl,d',n,os,hp,hs,rfl⟩;have hp':PermIn 0 fs.toArray.size fs.toArray d':=by simpa using hp
   have hs':SortedIn (ltOf cf) 0 fs.toArray.size d':=by simpa using hs
   have hpl:=rZ hp';rw [List.toList_toArray] at hpl;refine ⟨rfl,d'.toList,hpl,mG hp' hs',⟨by rw [cK enc k hk],.inr ⟨b,cap,_,by rw [hpl.length_eq],hB,uV enc k d' hgg,by rw [hpl.length_eq];exact hc1,hc2,by simp [putCells,hc3],?_⟩⟩,rY enc k d'⟩;have e:=mF enc k hk hk0 d';have hsz:(flatK enc k d').size=d'.toList.length*k:=by simp
   rw [←hsz,uW cur _ (by rw [hsz,hc3,hpl.length_eq];exact Nat.mul_le_mul_right k hc1),e]
end Go.Proofs.YtpfemjlhklnfoaaGreatDoor
namespace Go.Proofs.YtpfemjlhklnfoaaGreatDoor
open Go.Shelf Go.RowKit Go.Lib Go.Sort
set_option maxRecDepth 100000
def Gd (w w':World):Prop:=∃ q os',w'=grow (w.drewN q) os'
theorem Gd.refl (w:World):Gd w w:=⟨0,#[],by rw [grow_empty];rfl⟩
theorem Gd.drew (w:World):Gd w w.drew:=⟨1,#[],by rw [grow_empty];rfl⟩
theorem Gd.box (w:World) (o:Obj):Gd w (w.alloc o):=⟨0,#[o],by rw [alloc_eq_grow];rfl⟩
theorem Gd.trans {a b c:World} (h:Gd a b) (h':Gd b c):Gd a c:=by
 obtain ⟨q,os,rfl⟩:=h;obtain ⟨q',os',rfl⟩:=h';refine ⟨q+q',os++os',?_⟩;simp [grow,World.drewN,Array.append_assoc,Nat.add_assoc]
theorem Gd.box2 (w:World) (o u:Obj):Gd w ((w.alloc o).alloc u):=(Gd.box w o).trans (Gd.box _ u)
theorem Gd.below {w w':World} (h:Gd w w'):Below w.heap.size w w':=by
 obtain ⟨q,os,rfl⟩:=h;refine ⟨rfl,rfl,rfl,by simp [grow,World.drewN],fun k hk=> ?_⟩;show (w.heap++os)[k]? =_;rw [Array.getElem?_append_left hk]
set_option maxHeartbeats 400000 in
theorem xE (a b c x y z:Int) (w:World):
 Calls Tryz.prog 153 #[.agg #[.int .i64 a,.int .i64 b,.int .i64 c],.agg #[.int .i64 x,.int .i64 y,.int .i64 z]] w fun e w'=>e= .returned (.bool (eR a b c x y z))∧Gd w w':=by
 go_enter Tryz.func153,Tryz.ntmps153
 go_wp2
 all_goals
  go_ret;exact ⟨aC (by unfold eR;simp_all),Gd.box2 _ _ _⟩
set_option maxHeartbeats 800000 in
theorem oN (a b c x y z:Int) (w:World):
 Calls Tryz.prog 95 #[.agg #[.int .i64 a,.int .i64 b,.int .i64 c],.agg #[.int .i64 x,.int .i64 y,.int .i64 z]] w fun e w'=>e= .returned (.int .i64 (bQ a b c x y z))∧Gd w w':=by
 have he:=tU a b c x y z;have hg:=hR;have hl:=xE a b c x y z
 by_cases h:a=x∧b=y∧c=z
 · have HC:Hid (bQ a b c x y z=0):=by unfold Hid bQ;obtain ⟨h1,h2,h3⟩:=h;rw [if_pos h1,if_pos h2,if_pos h3]
   rw [decide_eq_true h] at he;clear h
   go_enter Tryz.func95,Tryz.ntmps95
   go_wp2
   go_ret;exact ⟨aT HC.out.symm,Gd.box2 _ _ _⟩
 · rw [decide_eq_false h] at he
   cases hc:eR a b c x y z
   · have HC:Hid (bQ a b c x y z=1):=by unfold Hid bQ;unfold eR at hc;grind
     rw [hc] at hl;clear h hc
     go_enter Tryz.func95,Tryz.ntmps95
     go_wp2_with (go_at_call 153;refine (hl _).mono ?_;rintro e w' ⟨rfl,hb⟩)
     go_ret;exact ⟨aT HC.out.symm,(Gd.box2 _ _ _).trans hb⟩
   · have HC:Hid (bQ a b c x y z= -1):=by unfold Hid bQ;unfold eR at hc;grind
     rw [hc] at hl;clear h hc
     go_enter Tryz.func95,Tryz.ntmps95
     go_wp2_with (go_at_call 153;refine (hl _).mono ?_;rintro e w' ⟨rfl,hb⟩)
     go_ret;exact ⟨aT HC.out.symm,(Gd.box2 _ _ _).trans hb⟩
theorem eX:∀ (a b:List UInt8),Lib.compareBytes a b<0↔bytesBefore a b=true
 |[],[]=>by simp [Lib.compareBytes,bytesBefore]
 |[],_::_=>by simp [Lib.compareBytes,bytesBefore]
 |_::_,[]=>by simp [Lib.compareBytes,bytesBefore]
 |a::ra,b::rb=>by
  have ih:=eX ra rb;unfold Lib.compareBytes bytesBefore
  by_cases h1:a<b
  · simp [h1]
  · rw [if_neg h1]
    by_cases h2:b<a
    · rw [if_pos h2]
      have h3:¬ a=b:=fun e=>by subst e;exact h1 h2
      simp [h1,h3]
    · rw [if_neg h2]
      have h3:a=b:=UInt8.le_antisymm (UInt8.not_lt.1 h2) (UInt8.not_lt.1 h1);simp [h3,ih]
theorem eY:∀ (a b:List UInt8),Lib.compareBytes a b=0↔a=b
 |[],[]=>by simp [Lib.compareBytes]
 |[],_::_=>by simp [Lib.compareBytes]
 |_::_,[]=>by simp [Lib.compareBytes]
 |a::ra,b::rb=>by
  have ih:=eY ra rb;unfold Lib.compareBytes
  by_cases h1:a<b
  · rw [if_pos h1]
    have h3:¬ a=b:=fun e=>by subst e;exact absurd h1 (UInt8.lt_irrefl _)
    simp [h3]
  · rw [if_neg h1]
    by_cases h2:b<a
    · rw [if_pos h2]
      have h3:¬ a=b:=fun e=>by subst e;exact h1 h2
      simp [h3]
    · rw [if_neg h2]
      have h3:a=b:=UInt8.le_antisymm (UInt8.not_lt.1 h2) (UInt8.not_lt.1 h1);simp [h3,ih]
theorem gF {a b c:List UInt8} (h:bytesBefore a b=false) (k:bytesBefore b c=false):bytesBefore a c=false:=by
 rw [Bool.eq_false_iff];intro q
 by_cases e:b=c
 · subst e;rw [h] at q;cases q
 · rcases WideAt.bytes_total b c e with r|r
   · rw [k] at r;cases r
   · have:=WideShapes.bytes_trans a c b q r
     rw [h] at this;cases this
set_option maxHeartbeats 1600000 in
theorem zG {w:World} {g:Nat} {r1 r2:Int} (c0:w.cell? ⟨g,0,none⟩=some (.int .i64 r1)) (c1:w.cell? ⟨g,1,none⟩=some (.int .i64 r2)):Calls Tryz.prog 104 #[.slice (some ⟨g,0,none⟩) 2 2] w fun e w'=>e= .returned (.int .i64 (if r1=0 then r2 else r1))∧w'=w:=by
 have HIF:Hid ((r1=0→(if r1=0 then r2 else r1)=r2)∧(¬ r1=0→(if r1=0 then r2 else r1)=r1)):=⟨fun h=>if_pos h,fun h=>if_neg h⟩;generalize (if r1=0 then r2 else r1)=rr at*
 go_enter Tryz.func104,Tryz.ntmps104
 go_wp2_with fail
 go_loopw [8] (fun vi wr=>wr=w∧(vi= .int .i64 0∨(vi= .int .i64 1∧r1=0)∨(vi= .int .i64 2∧r1=0∧r2=0))) (fun vi _=>2 - (intOf vi).toNat)
 case atStart=>exact ⟨rfl,Or.inl rfl⟩
 case round=>
  obtain ⟨hww,rfl|⟨rfl,h1⟩|⟨rfl,h1,h2⟩⟩:=hrel
  · obtain rfl:w=wr:=hww.symm
    by_cases hz:r1=0
    · have HZ:=aA hz
      have hb:(r1==0)=true:=by simpa using hz
      rw [hz] at c0;clear hz hb
      go_wp2_with fail
      exact ⟨⟨trivial,Or.inr (Or.inl ⟨rfl,HZ.out⟩)⟩,by decide⟩
    · have HZ:=aA hz
      have hb:(r1==0)=false:=by simpa using hz
      clear hz
      go_wp2_with fail
      go_ret;exact ⟨aT (HIF.out.2 HZ.out).symm,rfl⟩
  · obtain rfl:w=wr:=hww.symm
    have HZ:=aA h1;clear h1
    by_cases hz:r2=0
    · have HZ2:=aA hz
      rw [hz] at c1;clear hz
      go_wp2_with fail
      exact ⟨⟨trivial,Or.inr (Or.inr ⟨rfl,HZ.out,HZ2.out⟩)⟩,by decide⟩
    · have hb:(r2==0)=false:=by simpa using hz
      clear hz
      go_wp2_with fail
      go_ret;exact ⟨aT (HIF.out.1 HZ.out).symm,rfl⟩
  · obtain rfl:w=wr:=hww.symm
    have HZ:=aA h1;have HZ2:=aA h2;clear h1 h2
    go_wp2
    go_ret;exact ⟨aT ((HIF.out.1 HZ.out).trans HZ2.out).symm,rfl⟩
end Go.Proofs.YtpfemjlhklnfoaaGreatDoor
namespace Go.Proofs.YtpfemjlhklnfoaaGreatDoor
open Go.RowKit
set_option maxRecDepth 100000
theorem fL (s:ByteArray) (hs:s.size≤281474976710656) (w:World):Calls Tryz.prog 78 #[.string s] w fun e w'=>e= .returned (.string s)∧Below w.heap.size w w':=by
 have HC:=aA (Tryz.stringslite_Clone s w hs)
 go_enter Tryz.func78,Tryz.ntmps78
 go_wp2_with (go_at_call 127;refine HC.out.mono ?_;rintro e w1 ⟨rfl,hb⟩;have HB:=aA hb;clear hb)
 go_ret;exact ⟨rfl,HB.out⟩
theorem xF {w:World} {g o:Nat} {L:List Sp} (h:∀ i (h:i<L.length),SpAt w g (o+i*6) L[i]) (j:Nat) (u:Value) (hj:(aU L)[j]? =some u):w.cell? ⟨g,o+j,none⟩=some u:=by
 have hl:j<L.length*6:=by rw [←dS];exact (List.getElem?_eq_some_iff.1 hj).1
 obtain ⟨i,r,hr,rfl⟩:∃ i r,r<6∧j=i*6+r:=⟨j / 6,j % 6,by omega,by omega⟩;have hi:i<L.length:=by omega
 obtain ⟨a0,a1,a2,a3,a4,a5⟩:=h i hi;obtain ⟨b0,b1,b2,b3,b4,b5⟩:=eU L i hi;rw [←Nat.add_assoc]
 match r,hr with
 |0,_=>exact (a0.trans b0.symm).trans hj
 |1,_=>exact (a1.trans b1.symm).trans hj
 |2,_=>exact (a2.trans b2.symm).trans hj
 |3,_=>exact (a3.trans b3.symm).trans hj
 |4,_=>exact (a4.trans b4.symm).trans hj
 |5,_=>exact (a5.trans b5.symm).trans hj
theorem zH (L:List Sp):∀ u ∈ aU L,u.oneCell'=true:=fun u hu=>by
 unfold aU at hu;obtain ⟨s,_,hs⟩:=List.mem_flatMap.1 hu
 simp at hs
 rcases hs with rfl|rfl|rfl|rfl|rfl|rfl<;>rfl
theorem sA (w:World):(w.alloc (.cells #[] 91)).ownsRow w.heap.size 91 6 (.slice (some ⟨w.heap.size,0,none⟩) 0 0) 0 []:=
 ⟨rfl,Or.inr ⟨w.heap.size,0,#[],rfl,Nat.le_refl _,by show (w.heap.push _)[w.heap.size]? =_;rw [Array.getElem?_push,if_pos rfl],Nat.le_refl _,by decide,rfl,rfl⟩⟩
end Go.Proofs.YtpfemjlhklnfoaaGreatDoor
namespace Go.Proofs.YtpfemjlhklnfoaaGreatDoor
open Go.RowKit Go.Maps Go.WideMaps
set_option maxRecDepth 100000
def gQ (v:Value):Option (DataW Value×List MemPlace):=some (.held v,[])
theorem jW {v u:Value} {ps:List MemPlace} (h:gQ v=some (.held u,ps)):v=u:=by
 unfold gQ at h;injection h with h
 injection h with h _
 injection h
end Go.Proofs.YtpfemjlhklnfoaaGreatDoor
namespace Go.Proofs.YtpfemjlhklnfoaaGreatDoor
open Go.RowKit
set_option maxRecDepth 100000
theorem xG (w:World):Calls Tryz.prog 9 #[] w fun e w'=>e= .returned (.pointer (some ⟨w.heap.size+1,0,none⟩))∧w'=(w.alloc (.map #[] 0)).alloc (.cells #[.map (some w.heap.size)] 83):=by
 have hmm:= @run_makeMap Tryz.prog
 go_enter Tryz.func9,Tryz.ntmps9
 go_wp2
 go_ret;exact ⟨rfl,rfl⟩
end Go.Proofs.YtpfemjlhklnfoaaGreatDoor
namespace Go.Proofs.YtpfemjlhklnfoaaGreatDoor.Sc
open Go.RowKit
set_option maxRecDepth 100000
def ltB (b:UInt8):Bool:=decide (97≤b.toNat)&&decide (b.toNat≤122)
def dgB (b:UInt8):Bool:=decide (48≤b.toNat)&&decide (b.toNat≤57)
def nmB (b:UInt8):Bool:=ltB b||dgB b||decide (b.toNat=45)
theorem iM (b:UInt8) (w:World):Calls Tryz.prog 211 #[.int .u8 (b.toNat:Int)] w fun e w'=>e= .returned (.bool (ltB b))∧w'=w:=by
 go_enter Tryz.func211,Tryz.ntmps211
 go_wp2
 all_goals
  go_ret;refine ⟨aC ?_,rfl⟩;rw [Bool.eq_iff_iff];simp [ltB];omega
theorem sB (b:UInt8) (w:World):Calls Tryz.prog 212 #[.int .u8 (b.toNat:Int)] w fun e w'=>e= .returned (.bool (dgB b))∧w'=w:=by
 go_enter Tryz.func212,Tryz.ntmps212
 go_wp2
 all_goals
  go_ret;refine ⟨aC ?_,rfl⟩;rw [Bool.eq_iff_iff];simp [dgB];omega
end Go.Proofs.YtpfemjlhklnfoaaGreatDoor.Sc
