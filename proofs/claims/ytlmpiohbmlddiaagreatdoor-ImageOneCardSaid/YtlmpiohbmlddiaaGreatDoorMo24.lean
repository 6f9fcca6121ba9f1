/- Lo9: their declarations that are needed, laid in one text, remarks and blanks left out. -/
import Derived.Test.YtlmpiohbmlddiaaGreatDoorMo19
namespace Go.Proofs.YtlmpiohbmlddiaaGreatDoor.Lo
open Go.RowKit
open Sc (KeepP aB aH Bs ba bR bP)
set_option maxRecDepth 100000
open Sc (KeepP aB aH Bs ba)
set_option maxHeartbeats 12800000 in
theorem AW {A C:List Nd} (hAC:A.length=C.length) (hz:A.length≤1000000) (hzl:∀ n ∈ A,n.cx.length≤1000000∧n.ed.length≤1000000) {ga oa ca gb ob cb:Nat} {w:World}
 (ha:∀ W,Below w.heap.size w W→∀ i (h:i<A.length),∃ vc ve,NdIn W ga (oa+i*6) A[i] vc ve) (hc:∀ W,Below w.heap.size w W→∀ i (h:i<C.length),∃ vc ve,NdIn W gb (ob+i*6) C[i] vc ve):
 Calls Tryz.prog 19 #[.agg #[.slice (some ⟨ga,oa,none⟩) A.length ca],.agg #[.slice (some ⟨gb,ob,none⟩) A.length cb]] w fun e w'=>e= .returned (.bool (eqB A C))∧Below w.heap.size w w':=by
 have HA:=aB ha;have HC:=aB hc;have HAC:=aB hAC;have HZL:=aB hzl;clear ha hc hAC hzl;have HB0:Hid (Below w.heap.size w ((w.alloc (.cells #[.slice (some ⟨ga,oa,none⟩) A.length ca] 27)).alloc (.cells #[.slice (some ⟨gb,ob,none⟩) A.length cb] 27))∧BxG ((w.alloc (.cells #[.slice (some ⟨ga,oa,none⟩) A.length ca] 27)).alloc (.cells #[.slice (some ⟨gb,ob,none⟩) A.length cb] 27)) w.heap.size (.slice (some ⟨ga,oa,none⟩) A.length ca)∧BxG ((w.alloc (.cells #[.slice (some ⟨ga,oa,none⟩) A.length ca] 27)).alloc (.cells #[.slice (some ⟨gb,ob,none⟩) A.length cb] 27)) (w.heap.size+1) (.slice (some ⟨gb,ob,none⟩) A.length cb)):=⟨aA (aD _ _) (aD _ _),eY _ _ _ _ (BxG.new rfl _) (aD _ _),BxG.new (by simp) _⟩
 go_enter Tryz.func19,Tryz.ntmps19
 go_wp2_with fail
 go_loopw [5] (fun i wr=>∃ k:Nat,k≤A.length∧i= .int .i64 k∧(Below w.heap.size w wr∧BxG wr w.heap.size (.slice (some ⟨ga,oa,none⟩) A.length ca)∧BxG wr (w.heap.size+1) (.slice (some ⟨gb,ob,none⟩) A.length cb))∧∀ j (h:j<k) (h1:j<A.length) (h2:j<C.length),A[j]=C[j]) (fun i _=>A.length - (intOf i).toNat)
 case atStart=>exact ⟨0,Nat.zero_le _,rfl,HB0.out,fun j h=>by omega⟩
 case round=>
  clear HB0;obtain ⟨k,hk,rfl,hb,hall⟩:=hrel;have HALL:=aB hall;have HB:=aB hb;obtain ⟨_,⟨y0,y1⟩,⟨z0,z1⟩⟩:=hb;clear hall
  by_cases hlt:k<A.length
  · have hltC:k<C.length:=HAC.out ▸ hlt
    obtain ⟨vc,ve,hx⟩:=HA.out wr HB.out.1 k hlt;obtain ⟨uc,ue,hy⟩:=HC.out wr HB.out.1 k hltC;have HNE:Hid (A[k]≠C[k]→eqB A C=false):=fun h=>bJ fun e=>by subst e;exact h rfl
    have HST:Hid (A[k]=C[k]→∀ j (h:j<k+1) (h1:j<A.length) (h2:j<C.length),A[j]=C[j]):=fun h j hj h1 h2=>by
     rcases Nat.lt_or_ge j k with hjk|hjk
     · exact HALL.out j hjk h1 h2
     · obtain rfl:j=k:=by omega
       exact h
    have hzk:=HZL.out A[k] (List.getElem_mem hlt);clear HALL HA HC HZL;generalize A[k]=x at*;generalize C[k]=y at*;obtain ⟨av,cv,rfl⟩:=hx.2.1.1.sl;obtain ⟨ae,ce,rfl⟩:=hx.2.1.2.sl;obtain ⟨bv,dv,rfl⟩:=hy.2.1.1.sl;obtain ⟨be,de,rfl⟩:=hy.2.1.2.sl;have HX1:=aB (hx.below (aD wr (.cells #[.string x.nm,.int .i64 x.a,.int .i64 x.b,.int .i64 x.c,.slice av x.cx.length cv,.slice ae x.ed.length ce] 60)));have HY1:=aB (hy.below (aD wr (.cells #[.string x.nm,.int .i64 x.a,.int .i64 x.b,.int .i64 x.c,.slice av x.cx.length cv,.slice ae x.ed.length ce] 60)));have HX2:=aB (HX1.out.below (aD _ (.cells #[.string y.nm,.int .i64 y.a,.int .i64 y.b,.int .i64 y.c,.slice bv y.cx.length dv,.slice be y.ed.length de] 60)));have HY2:=aB (HY1.out.below (aD _ (.cells #[.string y.nm,.int .i64 y.a,.int .i64 y.b,.int .i64 y.c,.slice bv y.cx.length dv,.slice be y.ed.length de] 60)))
    have HKX:Hid (KX w w.heap.size wr.heap.size (.slice (some ⟨ga,oa,none⟩) A.length ca) (.slice (some ⟨gb,ob,none⟩) A.length cb) x y (.slice av x.cx.length cv) (.slice ae x.ed.length ce) (.slice bv y.cx.length dv) (.slice be y.ed.length de) ((wr.alloc (.cells #[.string x.nm,.int .i64 x.a,.int .i64 x.b,.int .i64 x.c,.slice av x.cx.length cv,.slice ae x.ed.length ce] 60)).alloc (.cells #[.string y.nm,.int .i64 y.a,.int .i64 y.b,.int .i64 y.c,.slice bv y.cx.length dv,.slice be y.ed.length de] 60))):=
     ⟨⟨aA (aA HB.out.1 (aD _ _)) (aD _ _),eY _ _ _ _ (eY _ _ _ _ HB.out.2.1 (aD _ _)) (aD _ _),eY _ _ _ _ (eY _ _ _ _ HB.out.2.2 (aD _ _)) (aD _ _)⟩,⟨iF _ _ _ _ _ _ (BxNd.new rfl _ _ _) (aD _ _),BxNd.new (by simp) _ _ _⟩,⟨HX2.out.2.1.1,HY2.out.2.1.1⟩,HX2.out.2.1.2,HY2.out.2.1.2⟩
    obtain ⟨⟨x0,x1,x2,x3,x4,x5⟩,_,x6⟩:=hx;obtain ⟨⟨f0,f1,f2,f3,f4,f5⟩,_,f6⟩:=HY1.out;clear HX1 HY1 HX2 HY2 hy;have hv:=UC x.a x.b x.c y.a y.b y.c;have hgd:=kS
    by_cases hn:x.nm.toList=y.nm.toList
    · by_cases hvv:x.a=y.a∧x.b=y.b∧x.c=y.c
      · by_cases hlc:x.cx.length=y.cx.length
        · by_cases hle:x.ed.length=y.ed.length
          · rw [decide_eq_true hvv] at hv
            have HEQ:Hid (x=y↔x.cx=y.cx∧x.ed=y.ed):=⟨fun e=>by rw [e];exact ⟨rfl,rfl⟩,fun ⟨e1,e2⟩=>by
             obtain ⟨n,a,b,c,cx,ed⟩:=x;obtain ⟨n',a',b',c',cx',ed'⟩:=y;obtain ⟨h1,h2,h3⟩:=hvv
             simp only at*
             rw [aQ hn,h1,h2,h3,e1,e2]⟩
            have HLC:=aB hlc;have HLE:=aB hle;rw [←hlc,←hle] at HKX;rw [←hlc] at f4;rw [←hle] at f5;have HKP:=aB (TB w w.heap.size wr.heap.size (.slice (some ⟨ga,oa,none⟩) A.length ca) (.slice (some ⟨gb,ob,none⟩) A.length cb) x y (.slice av x.cx.length cv) (.slice ae x.ed.length ce) (.slice bv x.cx.length dv) (.slice be x.ed.length de));clear hvv hlc hle;generalize hlx:x.cx.length=lx at*;generalize hle:x.ed.length=le at*;have HLX:=aB hlx;have HLEE:=aB hle;clear hlx hle;obtain ⟨wa,rfl⟩:∃ q,q=wr:=⟨wr,rfl⟩
            go_wp2_with fail
            go_loopw [8] (fun j wq=>∃ m:Nat,m≤lx∧j= .int .i64 m∧KX w w.heap.size wa.heap.size (.slice (some ⟨ga,oa,none⟩) A.length ca) (.slice (some ⟨gb,ob,none⟩) A.length cb) x y (.slice av lx cv) (.slice ae le ce) (.slice bv lx dv) (.slice be le de) wq∧∀ i (h:i<m) (h1:i<x.cx.length) (h2:i<y.cx.length),x.cx[i]=y.cx[i]) (fun j _=>lx - (intOf j).toNat)
            case atStart=>exact ⟨0,Nat.zero_le _,rfl,HKX.out,fun i h=>by omega⟩
            case round=>
             clear HKX x0 x1 x2 x3 x4 x5 x6 f0 f1 f2 f3 f4 f5 f6 y0 y1 z0 z1 HB;obtain ⟨m,hm,rfl,hkx,heq⟩:=hrel;have HEP:=aB heq;have HKX:=aB hkx;obtain ⟨_,⟨⟨⟨b0,b1,b2,b3,b4,b5⟩,b6⟩,⟨⟨d0,d1,d2,d3,d4,d5⟩,d6⟩⟩,_,_⟩:=hkx;clear heq
             by_cases hml:m<lx
             · have hmx:m<x.cx.length:=by have:=HLX.out;omega
               have hmy:m<y.cx.length:=by have:=HLC.out;omega
               obtain ⟨gp,op,rfl,hcp,hpi⟩:=uL HKX.out.2.2.1.1 hmx;obtain ⟨gq,oq,rfl,hcq,hqi⟩:=uL HKX.out.2.2.1.2 hmy;have HPN:Hid (x.cx[m]≠y.cx[m]→eqB A C=false):=fun h=>HNE.out fun e=>h (by subst e;rfl)
               have HPS:Hid (x.cx[m]=y.cx[m]→∀ i (h:i<m+1) (h1:i<x.cx.length) (h2:i<y.cx.length),x.cx[i]=y.cx[i]):=fun h i hi h1 h2=>by
                rcases Nat.lt_or_ge i m with him|him
                · exact HEP.out i him h1 h2
                · obtain rfl:i=m:=by omega
                  exact h
               have HO:Hid (KX w w.heap.size wa.heap.size (.slice (some ⟨ga,oa,none⟩) A.length ca) (.slice (some ⟨gb,ob,none⟩) A.length cb) x y (.slice (some ⟨gp,op,none⟩) lx cv) (.slice ae le ce) (.slice (some ⟨gq,oq,none⟩) lx dv) (.slice be le de) wr∧PnIn wr gp (op+m*4) x.cx[m]∧PnIn wr gq (oq+m*4) y.cx[m]):=⟨HKX.out,hpi,hqi⟩;have HK:Hid (KeepP fun W=>KX w w.heap.size wa.heap.size (.slice (some ⟨ga,oa,none⟩) A.length ca) (.slice (some ⟨gb,ob,none⟩) A.length cb) x y (.slice (some ⟨gp,op,none⟩) lx cv) (.slice ae le ce) (.slice (some ⟨gq,oq,none⟩) lx dv) (.slice be le de) W∧PnIn W gp (op+m*4) x.cx[m]∧PnIn W gq (oq+m*4) y.cx[m]):=HKP.out.and ((zS _ _ _).and (zS _ _ _));clear HKX hpi hqi HEP;generalize x.cx[m]=p at*;generalize y.cx[m]=q at*;have hp:=TT p q;have hgp:=QU;cases hpq:OD p q
               · have HR:=aB (HPN.out fun e=>by rw [zM.2 e] at hpq;cases hpq)
                 rw [hpq] at hp;clear HPN HPS hpq
                 go_wp2_with fail
                 clear b0 b1 b2 b3 b4 b5 b6 d0 d1 d2 d3 d4 d5 d6;refine bP HK (by kernel_rfl) (by kernel_rfl) (by first|exact HO.out|exact HK.out.drew HO.out) ?_;intro C HIN HOUT;clear HO
                 repeat
                  (with_reducible refine wpQuiet_step (fun K hK=> ?_)
                   go_simp
                   first
                    |(refine hK _ ?_;clear hK K)
                    |(apply Exists.intro;refine ⟨fun w1 hC=> ?_,hK _ ?_⟩;(focus ((first|(exact rfl)|(obtain ⟨⟨_,⟨⟨⟨b0,b1,b2,b3,b4,b5⟩,b6⟩,⟨⟨d0,d1,d2,d3,d4,d5⟩,d6⟩⟩,_,_⟩,⟨⟨p0,p1,p2,p3⟩,p4⟩,⟨⟨q0,q1,q2,q3⟩,q4⟩⟩:=HOUT.out w1 hC;clear hC;go_simp;first|done|exact rfl));done));clear hK K))
                 refine wpQuiet_nil ?_;intro wn hC;have HO:=aB (HOUT.out _ hC);clear hC HIN HOUT C;obtain ⟨⟨_,⟨⟨⟨b0,b1,b2,b3,b4,b5⟩,b6⟩,⟨⟨d0,d1,d2,d3,d4,d5⟩,d6⟩⟩,_,_⟩,⟨⟨p0,p1,p2,p3⟩,p4⟩,⟨⟨q0,q1,q2,q3⟩,q4⟩⟩:=HO.out
                 go_wp2
                 go_ret;exact ⟨aC HR.out.symm,HO.out.1.1.1⟩
               · have HR:=aB (HPS.out (zM.1 hpq))
                 rw [hpq] at hp;clear HPN HPS hpq
                 go_wp2_with fail
                 clear b0 b1 b2 b3 b4 b5 b6 d0 d1 d2 d3 d4 d5 d6;refine bP HK (by kernel_rfl) (by kernel_rfl) (by first|exact HO.out|exact HK.out.drew HO.out) ?_;intro C HIN HOUT;clear HO
                 repeat
                  (with_reducible refine wpQuiet_step (fun K hK=> ?_)
                   go_simp
                   first
                    |(refine hK _ ?_;clear hK K)
                    |(apply Exists.intro;refine ⟨fun w1 hC=> ?_,hK _ ?_⟩;(focus ((first|(exact rfl)|(obtain ⟨⟨_,⟨⟨⟨b0,b1,b2,b3,b4,b5⟩,b6⟩,⟨⟨d0,d1,d2,d3,d4,d5⟩,d6⟩⟩,_,_⟩,⟨⟨p0,p1,p2,p3⟩,p4⟩,⟨⟨q0,q1,q2,q3⟩,q4⟩⟩:=HOUT.out w1 hC;clear hC;go_simp;first|done|exact rfl));done));clear hK K))
                 refine wpQuiet_nil ?_;intro wn hC;have HO:=aB (HOUT.out _ hC);clear hC HIN HOUT C;obtain ⟨⟨_,⟨⟨⟨b0,b1,b2,b3,b4,b5⟩,b6⟩,⟨⟨d0,d1,d2,d3,d4,d5⟩,d6⟩⟩,_,_⟩,⟨⟨p0,p1,p2,p3⟩,p4⟩,⟨⟨q0,q1,q2,q3⟩,q4⟩⟩:=HO.out
                 go_wp2
                 exact ⟨⟨m+1,by omega,by go_num,HO.out.1,HR.out⟩,by simp [intOf];omega⟩
             · have hme:m=lx:=by omega
               subst hme;have HCX:Hid (x.cx=y.cx):=List.ext_getElem (HLX.out.trans HLC.out) fun i h1 h2=>HEP.out i (by have:=HLX.out;omega) h1 h2
               clear HEP;obtain ⟨wb,rfl⟩:∃ q,q=wr:=⟨wr,rfl⟩
               go_wp2_with fail
               clear b0 b1 b2 b3 b4 b5 b6 d0 d1 d2 d3 d4 d5 d6
               go_loopw [9] (fun j wq=>∃ n:Nat,n≤le∧j= .int .i64 n∧KX w w.heap.size wa.heap.size (.slice (some ⟨ga,oa,none⟩) A.length ca) (.slice (some ⟨gb,ob,none⟩) A.length cb) x y (.slice av m cv) (.slice ae le ce) (.slice bv m dv) (.slice be le de) wq∧∀ i (h:i<n) (h1:i<x.ed.length) (h2:i<y.ed.length),x.ed[i]=y.ed[i]) (fun j _=>le - (intOf j).toNat)
               case atStart=>exact ⟨0,Nat.zero_le _,rfl,HKX.out,fun i h=>by omega⟩
               case round=>
                clear HKX;obtain ⟨n,hnn,rfl,hkx,heq⟩:=hrel;have HEP:=aB heq;have HKX:=aB hkx;obtain ⟨_,⟨⟨⟨b0,b1,b2,b3,b4,b5⟩,b6⟩,⟨⟨d0,d1,d2,d3,d4,d5⟩,d6⟩⟩,_,_⟩:=hkx;clear heq
                by_cases hml:n<le
                · have hmx:n<x.ed.length:=by have:=HLEE.out;omega
                  have hmy:n<y.ed.length:=by have:=HLE.out;omega
                  obtain ⟨gp,op,rfl,hcp,hpi⟩:=rS HKX.out.2.2.2.1 hmx;obtain ⟨gq,oq,rfl,hcq,hqi⟩:=rS HKX.out.2.2.2.2 hmy;have HPN:Hid (x.ed[n]≠y.ed[n]→eqB A C=false):=fun h=>HNE.out fun e=>h (by subst e;rfl)
                  have HPS:Hid (x.ed[n]=y.ed[n]→∀ i (h:i<n+1) (h1:i<x.ed.length) (h2:i<y.ed.length),x.ed[i]=y.ed[i]):=fun h i hi h1 h2=>by
                   rcases Nat.lt_or_ge i n with him|him
                   · exact HEP.out i him h1 h2
                   · obtain rfl:i=n:=by omega
                     exact h
                  have HO:Hid (KX w w.heap.size wa.heap.size (.slice (some ⟨ga,oa,none⟩) A.length ca) (.slice (some ⟨gb,ob,none⟩) A.length cb) x y (.slice av m cv) (.slice (some ⟨gp,op,none⟩) le ce) (.slice bv m dv) (.slice (some ⟨gq,oq,none⟩) le de) wr∧EgIn wr gp (op+n*2) x.ed[n]∧EgIn wr gq (oq+n*2) y.ed[n]):=⟨HKX.out,hpi,hqi⟩;have HK:Hid (KeepP fun W=>KX w w.heap.size wa.heap.size (.slice (some ⟨ga,oa,none⟩) A.length ca) (.slice (some ⟨gb,ob,none⟩) A.length cb) x y (.slice av m cv) (.slice (some ⟨gp,op,none⟩) le ce) (.slice bv m dv) (.slice (some ⟨gq,oq,none⟩) le de) W∧EgIn W gp (op+n*2) x.ed[n]∧EgIn W gq (oq+n*2) y.ed[n]):=HKP.out.and ((zV _ _ _).and (zV _ _ _));clear HKX hpi hqi HEP;generalize x.ed[n]=p at*;generalize y.ed[n]=q at*;have hp:=TU p q;have hgp:=QX;cases hpq:OO p q
                  · have HR:=aB (HPN.out fun e=>by rw [zR.2 e] at hpq;cases hpq)
                    rw [hpq] at hp;clear HPN HPS hpq
                    go_wp2_with fail
                    clear b0 b1 b2 b3 b4 b5 b6 d0 d1 d2 d3 d4 d5 d6;refine bP HK (by kernel_rfl) (by kernel_rfl) (by first|exact HO.out|exact HK.out.drew HO.out) ?_;intro C HIN HOUT;clear HO
                    repeat
                     (with_reducible refine wpQuiet_step (fun K hK=> ?_)
                      go_simp
                      first
                       |(refine hK _ ?_;clear hK K)
                       |(apply Exists.intro;refine ⟨fun w1 hC=> ?_,hK _ ?_⟩;(focus ((first|(exact rfl)|(obtain ⟨⟨_,⟨⟨⟨b0,b1,b2,b3,b4,b5⟩,b6⟩,⟨⟨d0,d1,d2,d3,d4,d5⟩,d6⟩⟩,_,_⟩,⟨⟨p0,p1⟩,p4⟩,⟨⟨q0,q1⟩,q4⟩⟩:=HOUT.out w1 hC;clear hC;go_simp;first|done|exact rfl));done));clear hK K))
                    refine wpQuiet_nil ?_;intro wn hC;have HO:=aB (HOUT.out _ hC);clear hC HIN HOUT C;obtain ⟨⟨_,⟨⟨⟨b0,b1,b2,b3,b4,b5⟩,b6⟩,⟨⟨d0,d1,d2,d3,d4,d5⟩,d6⟩⟩,_,_⟩,⟨⟨p0,p1⟩,p4⟩,⟨⟨q0,q1⟩,q4⟩⟩:=HO.out
                    go_wp2
                    go_ret;exact ⟨aC HR.out.symm,HO.out.1.1.1⟩
                  · have HR:=aB (HPS.out (zR.1 hpq))
                    rw [hpq] at hp;clear HPN HPS hpq
                    go_wp2_with fail
                    clear b0 b1 b2 b3 b4 b5 b6 d0 d1 d2 d3 d4 d5 d6;refine bP HK (by kernel_rfl) (by kernel_rfl) (by first|exact HO.out|exact HK.out.drew HO.out) ?_;intro C HIN HOUT;clear HO
                    repeat
                     (with_reducible refine wpQuiet_step (fun K hK=> ?_)
                      go_simp
                      first
                       |(refine hK _ ?_;clear hK K)
                       |(apply Exists.intro;refine ⟨fun w1 hC=> ?_,hK _ ?_⟩;(focus ((first|(exact rfl)|(obtain ⟨⟨_,⟨⟨⟨b0,b1,b2,b3,b4,b5⟩,b6⟩,⟨⟨d0,d1,d2,d3,d4,d5⟩,d6⟩⟩,_,_⟩,⟨⟨p0,p1⟩,p4⟩,⟨⟨q0,q1⟩,q4⟩⟩:=HOUT.out w1 hC;clear hC;go_simp;first|done|exact rfl));done));clear hK K))
                    refine wpQuiet_nil ?_;intro wn hC;have HO:=aB (HOUT.out _ hC);clear hC HIN HOUT C;obtain ⟨⟨_,⟨⟨⟨b0,b1,b2,b3,b4,b5⟩,b6⟩,⟨⟨d0,d1,d2,d3,d4,d5⟩,d6⟩⟩,_,_⟩,⟨⟨p0,p1⟩,p4⟩,⟨⟨q0,q1⟩,q4⟩⟩:=HO.out
                    go_wp2
                    exact ⟨⟨n+1,by omega,by go_num,HO.out.1,HR.out⟩,by simp [intOf];omega⟩
                · have hme2:n=le:=by omega
                  subst hme2;have HED:Hid (x.ed=y.ed):=List.ext_getElem (HLEE.out.trans HLE.out) fun i h1 h2=>HEP.out i (by have:=HLEE.out;omega) h1 h2
                  have HR:=aB (HST.out (HEQ.out.2 ⟨HCX.out,HED.out⟩));clear HEP HKP HNE HST
                  go_wp2
                  exact ⟨⟨k+1,by omega,by go_num,HKX.out.1,HR.out⟩,by simp [intOf];omega⟩
          · have HR:=aB (HNE.out fun e=>hle (by rw [e]))
            rw [decide_eq_true hvv] at hv;have hle2:((x.ed.length:Int)=(y.ed.length:Int))=False:=by simp;omega
            have hle3:((x.ed.length:Int)==(y.ed.length:Int))=false:=by rw [beq_eq_false_iff_ne];omega
            rw [←hlc] at HKX f4;clear hle hlc hvv;generalize x.ed.length=lx at*;generalize y.ed.length=ly at*;clear HNE HST
            go_wp2
            go_ret;exact ⟨aC HR.out.symm,HKX.out.1.1⟩
        · have HR:=aB (HNE.out fun e=>hlc (by rw [e]))
          rw [decide_eq_true hvv] at hv;have hlc2:((x.cx.length:Int)=(y.cx.length:Int))=False:=by simp;omega
          have hlc3:((x.cx.length:Int)==(y.cx.length:Int))=false:=by rw [beq_eq_false_iff_ne];omega
          clear hlc hvv;generalize x.cx.length=lx at*;generalize y.cx.length=ly at*;clear HNE HST
          go_wp2
          go_ret;exact ⟨aC HR.out.symm,HKX.out.1.1⟩
      · have HR:=aB (HNE.out fun e=>hvv (by rw [e];exact ⟨rfl,rfl,rfl⟩))
        rw [decide_eq_false hvv] at hv;clear HNE HST
        go_wp2
        go_ret;exact ⟨aC HR.out.symm,HKX.out.1.1⟩
    · have HR:=aB (HNE.out fun e=>hn (by rw [e]))
      clear HNE HST
      go_wp2
      go_ret;exact ⟨aC HR.out.symm,HKX.out.1.1⟩
  · obtain rfl:k=A.length:=by omega
    have HR:Hid (eqB A C=true):=aO (QY HAC.out fun j h1 h2 h3=>HALL.out j h1 h2 h3);clear HALL
    go_wp2
    go_ret;exact ⟨aC HR.out.symm,HB.out.1⟩
theorem DW (ad bd:Option Addr) (n m ca cb:Nat) (h:n≠m) (w:World):
 Calls Tryz.prog 19 #[.agg #[.slice ad n ca],.agg #[.slice bd m cb]] w fun e w'=>e= .returned (.bool false)∧Below w.heap.size w w':=by
 have hn:((n:Int)=(m:Int))=False:=by simp;omega
 have HB:Hid (Below w.heap.size w ((w.alloc (.cells #[.slice ad n ca] 27)).alloc (.cells #[.slice bd m cb] 27))):=aA (aD _ _) (aD _ _)
 go_enter Tryz.func19,Tryz.ntmps19
 go_wp2
 go_ret;exact ⟨rfl,HB.out⟩
theorem sE (ad bd:Option Addr) (ca cb:Nat) (w:World):
 Calls Tryz.prog 19 #[.agg #[.slice ad 0 ca],.agg #[.slice bd 0 cb]] w fun e w'=>e= .returned (.bool true)∧Below w.heap.size w w':=by
 have HB:Hid (Below w.heap.size w ((w.alloc (.cells #[.slice ad 0 ca] 27)).alloc (.cells #[.slice bd 0 cb] 27))∧BxG ((w.alloc (.cells #[.slice ad 0 ca] 27)).alloc (.cells #[.slice bd 0 cb] 27)) w.heap.size (.slice ad 0 ca)):=⟨aA (aD _ _) (aD _ _),eY _ _ _ _ (BxG.new rfl _) (aD _ _)⟩
 go_enter Tryz.func19,Tryz.ntmps19
 go_wp2_with fail
 go_loopw [5] (fun i wr=>i= .int .i64 0∧Below w.heap.size w wr∧BxG wr w.heap.size (.slice ad 0 ca)) (fun _ _=>0)
 case atStart=>exact ⟨rfl,HB.out⟩
 case round=>
  clear HB;obtain ⟨rfl,hb,y0,y1⟩:=hrel;have HB:=aB hb;clear hb
  go_wp2
  go_ret;exact ⟨rfl,HB.out⟩
theorem DX {A C:List Nd} {v u:Value} {w:World} (ha:NodesAt w v A) (hc:NodesAt w u C) (hz:A.length≤1000000) (hzl:∀ n ∈ A,n.cx.length≤1000000∧n.ed.length≤1000000):
 Calls Tryz.prog 19 #[.agg #[v],.agg #[u]] w fun e w'=>e= .returned (.bool (eqB A C))∧Below w.heap.size w w':=by
 obtain ⟨ad,ca,rfl,_,hl⟩:=ha;obtain ⟨bd,cb,rfl,_,hm⟩:=hc
 by_cases hn:A.length=C.length
 · rcases hl with rfl|⟨ga,oa,rfl,hga,hla⟩
   · obtain rfl:C=[]:=List.eq_nil_of_length_eq_zero (by simpa using hn.symm)
     rw [aO rfl];exact sE _ _ _ _ _
   · rcases hm with rfl|⟨gb,ob,rfl,hgb,hlb⟩
     · obtain rfl:A=[]:=List.eq_nil_of_length_eq_zero (by simpa using hn)
       rw [aO rfl];exact sE _ _ _ _ _
     · rw [←hn]
       exact AW hn hz hzl (fun W hb i hi=>by obtain ⟨vc,ve,h⟩:=hla i hi;exact ⟨vc,ve,h.below hb⟩) (fun W hb i hi=>by obtain ⟨vc,ve,h⟩:=hlb i hi;exact ⟨vc,ve,h.below hb⟩)
 · rw [bJ fun e=>hn (by rw [e])]
   exact DW _ _ _ _ _ _ hn _
end Go.Proofs.YtlmpiohbmlddiaaGreatDoor.Lo
