/- Tw6, Tw7, Tc1, Im3, Ts1, ScLi2, ScLi3: their declarations that are needed, laid in one text, remarks and blanks left out. -/
import Derived.Test.YtlmpiohbmlddiaaGreatDoorShelfE
import Derived.Test.YtlmpiohbmlddiaaGreatDoorShelfN
import Derived.Test.YtlmpiohbmlddiaaGreatDoorScA
import Derived.Test.YtlmpiohbmlddiaaGreatDoorMd07
namespace Go.Proofs.YtlmpiohbmlddiaaGreatDoor
open Go.RowKit
set_option maxRecDepth 100000
def mH (L:List ByteArray):ByteArray:=L.getLastD ⟨#[]⟩
theorem JN {L:List ByteArray} (h:0<L.length):mH L=L[L.length - 1]'(by omega):=by
 unfold mH;rw [List.getLastD_eq_getLast?,List.getLast?_eq_getElem?,List.getElem?_eq_getElem (by omega)];rfl
theorem JO {L:List ByteArray} {v:Value} {w:World} (h:PathAt w v L) (h0:0<L.length) (hz:L.length≤9223372036854775807):
 Calls Tryz.prog 203 #[v] w fun e w'=>e= .returned (.string (mH L))∧Below w.heap.size w w':=by
 have HR:=aB (JN h0);obtain ⟨ad,cap,rfl,hc,hl⟩:=h
 obtain ⟨g,o,rfl,hs⟩:∃ g o,ad=some ⟨g,o,none⟩∧∀ i (h:i<L.length),StIn w g (o+i) L[i]:=by
  rcases hl with h|h
  · rw [h] at h0;simp at h0
  · exact h
 obtain ⟨c0,c1⟩:=hs (L.length - 1) (by omega);rw [←HR.out] at c0;clear hl hs;obtain ⟨k,hk⟩:∃ k,L.length=k+1:=⟨L.length - 1,by omega⟩;rw [hk] at c0 hc hz ⊢;rw [Nat.add_sub_cancel] at c0;clear h0 hk HR;generalize mH L=s at*
 go_enter Tryz.func203,Tryz.ntmps203
 go_wp2
 go_ret;exact ⟨rfl,Below.refl _ _⟩
theorem FC {ad:Option Addr} {n cap:Nat} (h0:0<n) (hc:n≤cap) (hz:n≤9223372036854775807) (w:World):
 Calls Tryz.prog 204 #[.slice ad n cap] w fun e w'=>e= .returned (.slice ad (n - 1) cap)∧Below w.heap.size w w':=by
 obtain ⟨k,rfl⟩:∃ k,n=k+1:=⟨n - 1,by omega⟩;have hk:k≤cap:=by omega
 rw [Nat.add_sub_cancel]
 go_enter Tryz.func204,Tryz.ntmps204
 go_wp2
 go_ret;exact ⟨rfl,Below.refl _ _⟩
def gQ:Pg:=⟨⟨#[]⟩,0,0,0,[],[],[]⟩
theorem oO (w:World):DepsAt w (.slice none 0 0) []:=⟨none,0,rfl,Nat.le_refl _,Or.inl rfl⟩
theorem NZ (w:World):PgAt w gQ (.slice none 0 0) (.slice none 0 0) (.slice none 0 0):=⟨oO w,oO w,oO w⟩
def PgZ (P:Pg):Prop:=P.d.length≤9223372036854775807∧P.p.length≤9223372036854775807∧P.o.length≤9223372036854775807
noncomputable def jF (d:Dr):Bool:=decide (d.pa.length=0)&&decide (d.nd=0)&&eqB d.pk gQ
def BxDr (w:World) (N:Nat) (u:Value) (s:ByteArray) (a b c:Int) (v1 v2 v3:Value) (nd:Int):Prop:=
 (w.cell? ⟨N,0,none⟩=some u∧w.cell? ⟨N,1,none⟩=some (.string s)∧w.cell? ⟨N,2,none⟩=some (.int .i64 a)∧w.cell? ⟨N,3,none⟩=some (.int .i64 b)∧w.cell? ⟨N,4,none⟩=some (.int .i64 c)∧w.cell? ⟨N,5,none⟩=some v1∧w.cell? ⟨N,6,none⟩=some v2∧w.cell? ⟨N,7,none⟩=some v3∧w.cell? ⟨N,8,none⟩=some (.int .i64 nd))∧N<w.heap.size
theorem JP (N:Nat) (u:Value) (s:ByteArray) (a b c:Int) (v1 v2 v3:Value) (nd:Int):KeepP fun w1=>BxDr w1 N u s a b c v1 v2 v3 nd:=fun w w' h hb=>by
 obtain ⟨⟨h0,h1,h2,h3,h4,h5,h6,h7,h8⟩,hg⟩:=h;have q:∀ i,w'.cell? ⟨N,i,none⟩=w.cell? ⟨N,i,none⟩:=fun i=>hb.cell (p:=⟨N,i,none⟩) hg
 exact ⟨⟨by rw [q];exact h0,by rw [q];exact h1,by rw [q];exact h2,by rw [q];exact h3,by rw [q];exact h4,by rw [q];exact h5,by rw [q];exact h6,by rw [q];exact h7,by rw [q];exact h8⟩,Nat.lt_of_lt_of_le hg hb.size⟩
theorem BxDr.new {w:World} {N:Nat} (hN:w.heap.size=N) (u:Value) (s:ByteArray) (a b c:Int) (v1 v2 v3:Value) (nd:Int):BxDr (w.alloc (.cells #[u,.string s,.int .i64 a,.int .i64 b,.int .i64 c,v1,v2,v3,.int .i64 nd] 56)) N u s a b c v1 v2 v3 nd:=by
 subst hN;refine ⟨⟨?_,?_,?_,?_,?_,?_,?_,?_,?_⟩,?_⟩<;>simp
set_option maxHeartbeats 1600000 in
theorem tJ {d:Dr} {u v1 v2 v3:Value} {w:World} (hu:PathAt w u d.pa) (hp:PgAt w d.pk v1 v2 v3) (hz:PgZ d.pk):
 Calls Tryz.prog 162 #[.agg #[u,.string d.pk.nm,.int .i64 d.pk.a,.int .i64 d.pk.b,.int .i64 d.pk.c,v1,v2,v3,.int .i64 d.nd]] w fun e w'=>e= .returned (.bool (jF d))∧Below w.heap.size w w':=by
 have HS:Hid (∀ w1,Below w.heap.size w w1→Calls Tryz.prog 201 #[.agg #[.string d.pk.nm,.int .i64 d.pk.a,.int .i64 d.pk.b,.int .i64 d.pk.c,v1,v2,v3],.agg #[.string ⟨#[]⟩,.int .i64 0,.int .i64 0,.int .i64 0,.slice none 0 0,.slice none 0 0,.slice none 0 0]] w1 fun e w'=>e= .returned (.bool (eqB d.pk gQ))∧Below w1.heap.size w1 w'):=fun w1 hb=>JG (hp.below hb) (NZ w1) hz.1 hz.2.1 hz.2.2
 have HRB:Hid (jF d=(decide (d.pa.length=0)&&decide (d.nd=0)&&eqB d.pk gQ)):=rfl;obtain ⟨ua,uc,rfl⟩:=hu.sl;obtain ⟨a1,c1,rfl⟩:=hp.1.sl;obtain ⟨a2,c2,rfl⟩:=hp.2.1.sl;obtain ⟨a3,c3,rfl⟩:=hp.2.2.sl;clear hu hp hz;generalize jF d=rb at*;generalize eqB d.pk gQ=eb at*;generalize d.pk.d.length=l1 at*;generalize d.pk.p.length=l2 at*;generalize d.pk.o.length=l3 at*;generalize d.pa.length=n at*;generalize d.pk.nm=s at*;generalize d.pk.a=a at*;generalize d.pk.b=b at*;generalize d.pk.c=c at*;generalize d.nd=nd at*
 by_cases hn:n=0
 · subst hn
   by_cases hd:nd=0
   · subst hd
     go_enter Tryz.func162,Tryz.ntmps162
     go_wp2_with (go_at_call 201;refine (HS.out _ (aD _ _)).mono ?_;rintro e w1 ⟨rfl,ok⟩)
     go_ret;exact ⟨aC (by rw [HRB.out];simp),aA (aD _ _) ok⟩
   · have hdi:(nd==0)=false:=by rw [beq_eq_false_iff_ne];exact hd
     go_enter Tryz.func162,Tryz.ntmps162
     go_wp2
     go_ret;exact ⟨aC (by rw [HRB.out,decide_eq_false hd];simp),aD _ _⟩
 · have hni:((n:Int)==0)=false:=by rw [beq_eq_false_iff_ne];omega
   go_enter Tryz.func162,Tryz.ntmps162
   go_wp2
   go_ret;exact ⟨aC (by rw [HRB.out,decide_eq_false hn];simp),aD _ _⟩
noncomputable def oP (A:List Dr) (d:Dr):Bool:=dF d.pa&&decide (0<d.nd)&&eqB d.pk.nm (mH d.pa)&&aS d.pk&&decide (bD A d.pa<0)&&decide (0≤bD A (d.pa.take (d.pa.length - 1)))
theorem rW {L:List ByteArray} (h:dF L=true):0<L.length:=by
 unfold dF at h;simp only [Bool.and_eq_true,decide_eq_true_eq] at h;exact h.1.1
set_option maxHeartbeats 6400000 in
theorem oQ {A:List Dr} {va:Value} {d:Dr} {u v1 v2 v3:Value} {w:World} (hA:DirsAt w va A) (hAz:A.length≤9223372036854775807) (hAf:FitD A) (hu:PathAt w u d.pa) (huz:d.pa.length*16≤140737488355328) (hp:PgAt w d.pk v1 v2 v3) (he:Env w) (hf:FL w):
 Calls Tryz.prog 163 #[.agg #[va],.agg #[u,.string d.pk.nm,.int .i64 d.pk.a,.int .i64 d.pk.b,.int .i64 d.pk.c,v1,v2,v3,.int .i64 d.nd]] w fun e w'=>e= .returned (.bool (oP A d))∧Below w.heap.size w w':=by
 have HRB:Hid (oP A d=(dF d.pa&&decide (0<d.nd)&&eqB d.pk.nm (mH d.pa)&&aS d.pk&&decide (bD A d.pa<0)&&decide (0≤bD A (d.pa.take (d.pa.length - 1))))):=rfl;have HMP:Hid (∀ w1,Below w.heap.size w w1→Calls Tryz.prog 202 #[u] w1 fun e w'=>e= .returned (.bool (dF d.pa))∧Below w1.heap.size w1 w'):=fun w1 hb=>tI (hu.below hb) huz
 have HMY:Hid (∀ w1,Below w.heap.size w w1→Calls Tryz.prog 188 #[.agg #[.string d.pk.nm,.int .i64 d.pk.a,.int .i64 d.pk.b,.int .i64 d.pk.c,v1,v2,v3]] w1 fun e w'=>e= .returned (.bool (aS d.pk))∧Below w1.heap.size w1 w'):=fun w1 hb=>JM (hp.below hb) (he.below hb) (hf.below hb)
 have HLA:Hid (dF d.pa=true→∀ w1,Below w.heap.size w w1→Calls Tryz.prog 203 #[u] w1 fun e w'=>e= .returned (.string (mH d.pa))∧Below w1.heap.size w1 w'):=fun h w1 hb=>JO (hu.below hb) (rW h) (by omega)
 have HF1:Hid (∀ w1,Below w.heap.size w w1→Calls Tryz.prog 57 #[.agg #[va],u] w1 fun e w'=>e= .returned (.int .i64 (bD A d.pa))∧Below w1.heap.size w1 w'):=fun w1 hb=>lL (hA.below hb) hAz hAf (hu.below hb)
 obtain ⟨ua,uc,rfl,huc,hus⟩:=hu;have HAB:Hid (dF d.pa=true→∀ w1,Calls Tryz.prog 204 #[.slice ua d.pa.length uc] w1 fun e w'=>e= .returned (.slice ua (d.pa.length - 1) uc)∧Below w1.heap.size w1 w'):=fun h w1=>FC (rW h) huc (by omega) w1
 have HF2:Hid (∀ w1,Below w.heap.size w w1→Calls Tryz.prog 57 #[.agg #[va],.slice ua (d.pa.length - 1) uc] w1 fun e w'=>e= .returned (.int .i64 (bD A (d.pa.take (d.pa.length - 1))))∧Below w1.heap.size w1 w'):=fun w1 hb=>lL (hA.below hb) hAz hAf ((PathAt.cut (n:=d.pa.length) ⟨_,_,rfl,huc,hus⟩ (Nat.sub_le _ _)).below hb)
 obtain ⟨aa,ac,rfl,hax⟩:=hA.sl;obtain ⟨a1,c1,rfl⟩:=hp.1.sl;obtain ⟨a2,c2,rfl⟩:=hp.2.1.sl;obtain ⟨a3,c3,rfl⟩:=hp.2.2.sl;have HG1:=aB (iD A d.pa);have HG2:=aB (iD A (d.pa.take (d.pa.length - 1)));clear hp he hf hA hAz hAf huz hax hus huc;generalize oP A d=rb at*;generalize bD A (d.pa.take (d.pa.length - 1))=f2 at*;generalize bD A d.pa=f1 at*;generalize aS d.pk=b4 at*;generalize dF d.pa=b1 at*;generalize mH d.pa=ls at*;generalize d.pk.d.length=l1 at*;generalize d.pk.p.length=l2 at*;generalize d.pk.o.length=l3 at*;generalize d.pa.length - 1=n1 at*;generalize d.pa.length=n at*;generalize d.pk.nm=s at*;generalize d.pk.a=a at*;generalize d.pk.b=b at*;generalize d.pk.c=c at*;generalize d.nd=nd at*;generalize A.length=m at*
 have HK:Hid (KeepP fun w1=>Below w.heap.size w w1∧BxT w1 w.heap.size (.slice aa m ac)∧BxDr w1 (w.heap.size+1) (.slice ua n uc) s a b c (.slice a1 l1 c1) (.slice a2 l2 c2) (.slice a3 l3 c3) nd):=(aO w).and ((cE _ _).and (JP _ _ _ _ _ _ _ _ _ _))
 have HO:Hid (Below w.heap.size w ((w.alloc (.cells #[.slice aa m ac] 30)).alloc (.cells #[.slice ua n uc,.string s,.int .i64 a,.int .i64 b,.int .i64 c,.slice a1 l1 c1,.slice a2 l2 c2,.slice a3 l3 c3,.int .i64 nd] 56))∧BxT ((w.alloc (.cells #[.slice aa m ac] 30)).alloc (.cells #[.slice ua n uc,.string s,.int .i64 a,.int .i64 b,.int .i64 c,.slice a1 l1 c1,.slice a2 l2 c2,.slice a3 l3 c3,.int .i64 nd] 56)) w.heap.size (.slice aa m ac)∧BxDr ((w.alloc (.cells #[.slice aa m ac] 30)).alloc (.cells #[.slice ua n uc,.string s,.int .i64 a,.int .i64 b,.int .i64 c,.slice a1 l1 c1,.slice a2 l2 c2,.slice a3 l3 c3,.int .i64 nd] 56)) (w.heap.size+1) (.slice ua n uc) s a b c (.slice a1 l1 c1) (.slice a2 l2 c2) (.slice a3 l3 c3) nd):=⟨aV _ _ _,cE _ _ _ _ (BxT.new _ _) (aD _ _),BxDr.new (by simp) _ _ _ _ _ _ _ _ _⟩;cases b1
 · have q1:True:=trivial
   go_enter Tryz.func163,Tryz.ntmps163
   go_wp2_with fail
   refine cI HK (by kernel_rfl) (by kernel_rfl) (by first|exact HO.out|exact HK.out.drew HO.out) ?_;intro C HIN HOUT;clear HO
   repeat
    (with_reducible refine wpQuiet_step (fun K hK=> ?_)
     go_simp
     first
      |(refine hK _ ?_;clear hK K)
      |(apply Exists.intro;refine ⟨fun w1 hC=> ?_,hK _ ?_⟩;(focus ((first|(go_at_call 202;with_reducible exact bA HIN HOUT HK (fun w1 hk=>HMP.out w1 hk.1) w1 hC)|(go_at_call 188;with_reducible exact bA HIN HOUT HK (fun w1 hk=>HMY.out w1 hk.1) w1 hC)|(go_at_call 57;with_reducible exact bA HIN HOUT HK (fun w1 hk=>HF2.out w1 hk.1) w1 hC)|(go_at_call 57;with_reducible exact bA HIN HOUT HK (fun w1 hk=>HF1.out w1 hk.1) w1 hC)|(exact rfl)|(obtain ⟨hb1,⟨x0,x1⟩,⟨⟨y0,y1,y2,y3,y4,y5,y6,y7,y8⟩,y9⟩⟩:=HOUT.out w1 hC;clear hC;go_simp;first|done|exact rfl));done));clear hK K))
   refine wpQuiet_nil ?_;intro wn hC;have HO:=aB (HOUT.out _ hC);clear hC HIN HOUT C;obtain ⟨hb1,⟨x0,x1⟩,⟨⟨y0,y1,y2,y3,y4,y5,y6,y7,y8⟩,y9⟩⟩:=HO.out
   go_wp2
   go_ret;exact ⟨aC (by rw [HRB.out];simp),HO.out.1⟩
 · have HLA2:=aB (HLA.out rfl)
   have HAB2:=aB (HAB.out rfl)
   by_cases hd:0<nd
   · have hd2:decide (nd>0)=true:=decide_eq_true hd
     by_cases h3:s=ls
     · have q3:(s.toList==ls.toList)=true:=by rw [h3];simp
       have q3b:(s.toList=ls.toList)=True:=by rw [h3];simp
       have HE3:Hid (eqB s ls=true):=bJ h3;rw [HE3.out,decide_eq_true hd] at HRB;clear h3 HE3;cases b4
       · go_enter Tryz.func163,Tryz.ntmps163
         go_wp2_with fail
         refine cI HK (by kernel_rfl) (by kernel_rfl) (by first|exact HO.out|exact HK.out.drew HO.out) ?_;intro C HIN HOUT;clear HO
         repeat
          (with_reducible refine wpQuiet_step (fun K hK=> ?_)
           go_simp
           first
            |(refine hK _ ?_;clear hK K)
            |(apply Exists.intro;refine ⟨fun w1 hC=> ?_,hK _ ?_⟩;(focus ((first|(go_at_call 202;with_reducible exact bA HIN HOUT HK (fun w1 hk=>HMP.out w1 hk.1) w1 hC)|(go_at_call 203;with_reducible exact bA HIN HOUT HK (fun w1 hk=>HLA2.out w1 hk.1) w1 hC)|(go_at_call 188;with_reducible exact bA HIN HOUT HK (fun w1 hk=>HMY.out w1 hk.1) w1 hC)|(go_at_call 204;with_reducible exact dT HIN HOUT HK HAB2.out w1 hC)|(go_at_call 57;with_reducible exact bA HIN HOUT HK (fun w1 hk=>HF2.out w1 hk.1) w1 hC)|(go_at_call 57;with_reducible exact bA HIN HOUT HK (fun w1 hk=>HF1.out w1 hk.1) w1 hC)|(exact rfl)|(obtain ⟨hb1,⟨x0,x1⟩,⟨⟨y0,y1,y2,y3,y4,y5,y6,y7,y8⟩,y9⟩⟩:=HOUT.out w1 hC;clear hC;go_simp;first|done|exact rfl));done));clear hK K))
         refine wpQuiet_nil ?_;intro wn hC;have HO:=aB (HOUT.out _ hC);clear hC HIN HOUT C;obtain ⟨hb1,⟨x0,x1⟩,⟨⟨y0,y1,y2,y3,y4,y5,y6,y7,y8⟩,y9⟩⟩:=HO.out
         go_wp2
         go_ret;exact ⟨aC (by rw [HRB.out];simp),HO.out.1⟩
       · rcases (show f1= -1∨0≤f1 by have:=HG1.out;omega) with h5|h5
         · subst h5
           rcases (show f2= -1∨0≤f2 by have:=HG2.out;omega) with h6|h6
           · subst h6
             go_enter Tryz.func163,Tryz.ntmps163
             go_wp2_with fail
             refine cI HK (by kernel_rfl) (by kernel_rfl) (by first|exact HO.out|exact HK.out.drew HO.out) ?_;intro C HIN HOUT;clear HO
             repeat
              (with_reducible refine wpQuiet_step (fun K hK=> ?_)
               go_simp
               first
                |(refine hK _ ?_;clear hK K)
                |(apply Exists.intro;refine ⟨fun w1 hC=> ?_,hK _ ?_⟩;(focus ((first|(go_at_call 202;with_reducible exact bA HIN HOUT HK (fun w1 hk=>HMP.out w1 hk.1) w1 hC)|(go_at_call 203;with_reducible exact bA HIN HOUT HK (fun w1 hk=>HLA2.out w1 hk.1) w1 hC)|(go_at_call 188;with_reducible exact bA HIN HOUT HK (fun w1 hk=>HMY.out w1 hk.1) w1 hC)|(go_at_call 204;with_reducible exact dT HIN HOUT HK HAB2.out w1 hC)|(go_at_call 57;with_reducible exact bA HIN HOUT HK (fun w1 hk=>HF2.out w1 hk.1) w1 hC)|(go_at_call 57;with_reducible exact bA HIN HOUT HK (fun w1 hk=>HF1.out w1 hk.1) w1 hC)|(exact rfl)|(obtain ⟨hb1,⟨x0,x1⟩,⟨⟨y0,y1,y2,y3,y4,y5,y6,y7,y8⟩,y9⟩⟩:=HOUT.out w1 hC;clear hC;go_simp;first|done|exact rfl));done));clear hK K))
             refine wpQuiet_nil ?_;intro wn hC;have HO:=aB (HOUT.out _ hC);clear hC HIN HOUT C;obtain ⟨hb1,⟨x0,x1⟩,⟨⟨y0,y1,y2,y3,y4,y5,y6,y7,y8⟩,y9⟩⟩:=HO.out
             go_wp2
             go_ret;exact ⟨aC (by rw [HRB.out];simp),HO.out.1⟩
           · have q6:decide (f2≥0)=true:=decide_eq_true h6
             rw [decide_eq_true h6] at HRB
             go_enter Tryz.func163,Tryz.ntmps163
             go_wp2_with fail
             refine cI HK (by kernel_rfl) (by kernel_rfl) (by first|exact HO.out|exact HK.out.drew HO.out) ?_;intro C HIN HOUT;clear HO
             repeat
              (with_reducible refine wpQuiet_step (fun K hK=> ?_)
               go_simp
               first
                |(refine hK _ ?_;clear hK K)
                |(apply Exists.intro;refine ⟨fun w1 hC=> ?_,hK _ ?_⟩;(focus ((first|(go_at_call 202;with_reducible exact bA HIN HOUT HK (fun w1 hk=>HMP.out w1 hk.1) w1 hC)|(go_at_call 203;with_reducible exact bA HIN HOUT HK (fun w1 hk=>HLA2.out w1 hk.1) w1 hC)|(go_at_call 188;with_reducible exact bA HIN HOUT HK (fun w1 hk=>HMY.out w1 hk.1) w1 hC)|(go_at_call 204;with_reducible exact dT HIN HOUT HK HAB2.out w1 hC)|(go_at_call 57;with_reducible exact bA HIN HOUT HK (fun w1 hk=>HF2.out w1 hk.1) w1 hC)|(go_at_call 57;with_reducible exact bA HIN HOUT HK (fun w1 hk=>HF1.out w1 hk.1) w1 hC)|(exact rfl)|(obtain ⟨hb1,⟨x0,x1⟩,⟨⟨y0,y1,y2,y3,y4,y5,y6,y7,y8⟩,y9⟩⟩:=HOUT.out w1 hC;clear hC;go_simp;first|done|exact rfl));done));clear hK K))
             refine wpQuiet_nil ?_;intro wn hC;have HO:=aB (HOUT.out _ hC);clear hC HIN HOUT C;obtain ⟨hb1,⟨x0,x1⟩,⟨⟨y0,y1,y2,y3,y4,y5,y6,y7,y8⟩,y9⟩⟩:=HO.out
             go_wp2
             go_ret;exact ⟨aC (by rw [HRB.out];simp),HO.out.1⟩
         · have q5:decide (f1<0)=false:=decide_eq_false (by omega)
           have q5b:(f1<0)=False:=eq_false (by omega);rw [q5] at HRB
           go_enter Tryz.func163,Tryz.ntmps163
           go_wp2_with fail
           refine cI HK (by kernel_rfl) (by kernel_rfl) (by first|exact HO.out|exact HK.out.drew HO.out) ?_;intro C HIN HOUT;clear HO
           repeat
            (with_reducible refine wpQuiet_step (fun K hK=> ?_)
             go_simp
             first
              |(refine hK _ ?_;clear hK K)
              |(apply Exists.intro;refine ⟨fun w1 hC=> ?_,hK _ ?_⟩;(focus ((first|(go_at_call 202;with_reducible exact bA HIN HOUT HK (fun w1 hk=>HMP.out w1 hk.1) w1 hC)|(go_at_call 203;with_reducible exact bA HIN HOUT HK (fun w1 hk=>HLA2.out w1 hk.1) w1 hC)|(go_at_call 188;with_reducible exact bA HIN HOUT HK (fun w1 hk=>HMY.out w1 hk.1) w1 hC)|(go_at_call 204;with_reducible exact dT HIN HOUT HK HAB2.out w1 hC)|(go_at_call 57;with_reducible exact bA HIN HOUT HK (fun w1 hk=>HF2.out w1 hk.1) w1 hC)|(go_at_call 57;with_reducible exact bA HIN HOUT HK (fun w1 hk=>HF1.out w1 hk.1) w1 hC)|(exact rfl)|(obtain ⟨hb1,⟨x0,x1⟩,⟨⟨y0,y1,y2,y3,y4,y5,y6,y7,y8⟩,y9⟩⟩:=HOUT.out w1 hC;clear hC;go_simp;first|done|exact rfl));done));clear hK K))
           refine wpQuiet_nil ?_;intro wn hC;have HO:=aB (HOUT.out _ hC);clear hC HIN HOUT C;obtain ⟨hb1,⟨x0,x1⟩,⟨⟨y0,y1,y2,y3,y4,y5,y6,y7,y8⟩,y9⟩⟩:=HO.out
           go_wp2
           go_ret;exact ⟨aC (by rw [HRB.out];simp),HO.out.1⟩
     · have q3:(s.toList==ls.toList)=false:=by rw [beq_eq_false_iff_ne];exact fun e=>h3 (aY e)
       have q3b:(s.toList=ls.toList)=False:=eq_false fun e=>h3 (aY e)
       have HE3:Hid (eqB s ls=false):=cG h3;rw [HE3.out] at HRB;clear h3 HE3
       go_enter Tryz.func163,Tryz.ntmps163
       go_wp2_with fail
       refine cI HK (by kernel_rfl) (by kernel_rfl) (by first|exact HO.out|exact HK.out.drew HO.out) ?_;intro C HIN HOUT;clear HO
       repeat
        (with_reducible refine wpQuiet_step (fun K hK=> ?_)
         go_simp
         first
          |(refine hK _ ?_;clear hK K)
          |(apply Exists.intro;refine ⟨fun w1 hC=> ?_,hK _ ?_⟩;(focus ((first|(go_at_call 202;with_reducible exact bA HIN HOUT HK (fun w1 hk=>HMP.out w1 hk.1) w1 hC)|(go_at_call 203;with_reducible exact bA HIN HOUT HK (fun w1 hk=>HLA2.out w1 hk.1) w1 hC)|(go_at_call 188;with_reducible exact bA HIN HOUT HK (fun w1 hk=>HMY.out w1 hk.1) w1 hC)|(go_at_call 204;with_reducible exact dT HIN HOUT HK HAB2.out w1 hC)|(go_at_call 57;with_reducible exact bA HIN HOUT HK (fun w1 hk=>HF2.out w1 hk.1) w1 hC)|(go_at_call 57;with_reducible exact bA HIN HOUT HK (fun w1 hk=>HF1.out w1 hk.1) w1 hC)|(exact rfl)|(obtain ⟨hb1,⟨x0,x1⟩,⟨⟨y0,y1,y2,y3,y4,y5,y6,y7,y8⟩,y9⟩⟩:=HOUT.out w1 hC;clear hC;go_simp;first|done|exact rfl));done));clear hK K))
       refine wpQuiet_nil ?_;intro wn hC;have HO:=aB (HOUT.out _ hC);clear hC HIN HOUT C;obtain ⟨hb1,⟨x0,x1⟩,⟨⟨y0,y1,y2,y3,y4,y5,y6,y7,y8⟩,y9⟩⟩:=HO.out
       go_wp2
       go_ret;exact ⟨aC (by rw [HRB.out];simp),HO.out.1⟩
   · have hd2:decide (nd>0)=false:=decide_eq_false hd
     rw [decide_eq_false hd] at HRB
     go_enter Tryz.func163,Tryz.ntmps163
     go_wp2_with fail
     refine cI HK (by kernel_rfl) (by kernel_rfl) (by first|exact HO.out|exact HK.out.drew HO.out) ?_;intro C HIN HOUT;clear HO
     repeat
      (with_reducible refine wpQuiet_step (fun K hK=> ?_)
       go_simp
       first
        |(refine hK _ ?_;clear hK K)
        |(apply Exists.intro;refine ⟨fun w1 hC=> ?_,hK _ ?_⟩;(focus ((first|(go_at_call 202;with_reducible exact bA HIN HOUT HK (fun w1 hk=>HMP.out w1 hk.1) w1 hC)|(go_at_call 203;with_reducible exact bA HIN HOUT HK (fun w1 hk=>HLA2.out w1 hk.1) w1 hC)|(go_at_call 188;with_reducible exact bA HIN HOUT HK (fun w1 hk=>HMY.out w1 hk.1) w1 hC)|(go_at_call 204;with_reducible exact dT HIN HOUT HK HAB2.out w1 hC)|(go_at_call 57;with_reducible exact bA HIN HOUT HK (fun w1 hk=>HF2.out w1 hk.1) w1 hC)|(go_at_call 57;with_reducible exact bA HIN HOUT HK (fun w1 hk=>HF1.out w1 hk.1) w1 hC)|(exact rfl)|(obtain ⟨hb1,⟨x0,x1⟩,⟨⟨y0,y1,y2,y3,y4,y5,y6,y7,y8⟩,y9⟩⟩:=HOUT.out w1 hC;clear hC;go_simp;first|done|exact rfl));done));clear hK K))
     refine wpQuiet_nil ?_;intro wn hC;have HO:=aB (HOUT.out _ hC);clear hC HIN HOUT C;obtain ⟨hb1,⟨x0,x1⟩,⟨⟨y0,y1,y2,y3,y4,y5,y6,y7,y8⟩,y9⟩⟩:=HO.out
     go_wp2
     go_ret;exact ⟨aC (by rw [HRB.out];simp),HO.out.1⟩
noncomputable def gZ (L:List Dr) (i:Nat):Bool:=match L[i]? with
 |some d=>oP (L.take i) d
 |none=>true
theorem oR {L:List Dr} {i:Nat} (h:i<L.length):gZ L i=oP (L.take i) L[i]:=by
 unfold gZ;rw [List.getElem?_eq_getElem h]
noncomputable def CX:List Dr→Bool
 |[]=>false
 |d::_=>jF d
theorem kN {L:List Dr} (h:0<L.length):CX L=jF L[0]:=by
 cases L with
 |nil=>simp at h
 |cons d L=>rfl
noncomputable def bR (L:List Dr):Bool:=(decide (0<L.length)&&decide (L.length≤257))&&(CX L&&(List.range L.length).all fun i=>decide (i=0)||gZ L i)
theorem cJ {L:List Dr}:bR L=true↔(0<L.length∧L.length≤257)∧CX L=true∧∀ i,i<L.length→i≠0→gZ L i=true:=by
 unfold bR;simp only [Bool.and_eq_true,decide_eq_true_eq,List.all_eq_true,List.mem_range,Bool.or_eq_true];exact ⟨fun ⟨h1,h2,h3⟩=>⟨h1,h2,fun i hi h0=>(h3 i hi).resolve_left h0⟩,fun ⟨h1,h2,h3⟩=>⟨h1,h2,fun i hi=>(Nat.eq_zero_or_pos i).imp id fun h=>h3 i hi (by omega)⟩⟩
theorem iT {L:List Dr} (h:¬ ((0<L.length∧L.length≤257)∧CX L=true∧∀ i,i<L.length→i≠0→gZ L i=true)):bR L=false:=by
 cases hc:bR L with
 |false=>rfl
 |true=>exact absurd (cJ.1 hc) h
def kO (L:List Dr):Prop:=FitP1 L∧∀ d ∈ L,PgZ d.pk
theorem FitD.take {L:List Dr} (h:FitD L) (k:Nat):FitD (L.take k):=fun d hd=>h d (List.mem_of_mem_take hd)
def OA:Bool→Int
 |true=>0
 |false=>42
set_option maxHeartbeats 6400000 in
theorem zW {L:List Dr} {v:Value} {w:World} (h:DirsAt w v L) (hz:L.length≤9223372036854775807) (hk:kO L) (he:Env w) (hf:FL w):
 Calls Tryz.prog 115 #[.agg #[v]] w fun e w'=>e= .returned (.int .i64 (OA (bR L)))∧Below w.heap.size w w':=by
 have HYE:Hid (bR L=true→OA (bR L)=0):=fun e=>by rw [e];rfl
 have HNO:Hid (bR L=false→OA (bR L)=42):=fun e=>by rw [e];rfl
 have HDA:Hid (∀ w1,Below w.heap.size w w1→DirsAt w1 v L):=fun w1 hb=>h.below hb
 obtain ⟨ad,cap,rfl,hc,hsl⟩:=h.sl;have HMR:Hid (∀ w1,Below w.heap.size w w1→∀ i (hi:i<L.length) u v1 v2 v3 g o,DrIn w1 g o L[i] u v1 v2 v3→Calls Tryz.prog 162 #[.agg #[u,.string L[i].pk.nm,.int .i64 L[i].pk.a,.int .i64 L[i].pk.b,.int .i64 L[i].pk.c,v1,v2,v3,.int .i64 L[i].nd]] w1 fun e w'=>e= .returned (.bool (jF L[i]))∧Below w1.heap.size w1 w'):=fun w1 hb i hi u v1 v2 v3 g o hd=>tJ hd.2.1.1 hd.2.1.2 (hk.2 _ (List.getElem_mem hi))
 have HMF:Hid (∀ w1,Below w.heap.size w w1→∀ i (hi:i<L.length) u v1 v2 v3 g o,DrIn w1 g o L[i] u v1 v2 v3→Calls Tryz.prog 163 #[.agg #[.slice ad i cap],.agg #[u,.string L[i].pk.nm,.int .i64 L[i].pk.a,.int .i64 L[i].pk.b,.int .i64 L[i].pk.c,v1,v2,v3,.int .i64 L[i].nd]] w1 fun e w'=>e= .returned (.bool (gZ L i))∧Below w1.heap.size w1 w'):=fun w1 hb i hi u v1 v2 v3 g o hd=>by
  rw [oR hi];exact oQ (DirsAt.cut (n:=L.length) (HDA.out w1 hb) (by omega)) (by rw [List.length_take];omega) (hk.1.fit.take i) hd.2.1.1 (hk.1 _ (List.getElem_mem hi)) hd.2.1.2 (he.below hb) (hf.below hb)
 have HS:Hid (∀ w1,Below w.heap.size w w1→∀ i (_:i<L.length),∃ g o,ad=some ⟨g,o,none⟩∧∃ u v1 v2 v3,DrIn w1 g (o+i*9) L[i] u v1 v2 v3):=fun w1 hb i hi=>by
  obtain ⟨g,o,e,u,v1,v2,v3,hd⟩:=hsl i hi;exact ⟨g,o,e,u,v1,v2,v3,hd.below hb⟩
 clear h hk he hf hsl
 by_cases h0:L.length=0
 · have HR:Hid (bR L=false):=iT fun h=>by omega
   rw [h0]
   go_enter Tryz.func115,Tryz.ntmps115
   go_wp2
   go_ret;exact ⟨bP (HNO.out HR.out).symm,aD _ _⟩
 · have hn0:((L.length:Int)==0)=false:=by rw [beq_eq_false_iff_ne];omega
   by_cases h1:257<L.length
   · have HR:Hid (bR L=false):=iT fun h=>by omega
     have hg1:decide ((L.length:Int)>257)=true:=decide_eq_true (by omega)
     go_enter Tryz.func115,Tryz.ntmps115
     go_wp2
     go_ret;exact ⟨bP (HNO.out HR.out).symm,aD _ _⟩
   · have hg1:decide ((L.length:Int)>257)=false:=decide_eq_false (by omega)
     have hpos:0<L.length:=by omega
     obtain ⟨g,o,rfl,u,v1,v2,v3,hd⟩:=HS.out _ (aD w (.cells #[.slice ad L.length cap] 30)) 0 hpos;have HC:=aB (HMR.out _ (aD w (.cells #[.slice (some ⟨g,o,none⟩) L.length cap] 30)) 0 hpos u v1 v2 v3 _ _ hd);have HRL:=aB (kN hpos);obtain ⟨⟨c0,c1,c2,c3,c4,c5,c6,c7,c8⟩,⟨hpa,hpk⟩,hg⟩:=hd;obtain ⟨ua,uc,rfl⟩:=hpa.sl;obtain ⟨x1,y1,rfl⟩:=hpk.1.sl;obtain ⟨x2,y2,rfl⟩:=hpk.2.1.sl;obtain ⟨x3,y3,rfl⟩:=hpk.2.2.sl;rw [Nat.zero_mul,Nat.add_zero] at c0 c1 c2 c3 c4 c5 c6 c7 c8;generalize L[0]=d at*;clear hpa hpk;cases hrb:jF d
     · have HR:Hid (bR L=false):=iT fun h=>by rw [HRL.out,hrb] at h;cases h.2.1
       rw [hrb] at HC
       go_enter Tryz.func115,Tryz.ntmps115
       go_wp2_with (go_at_call 162;refine HC.out.mono ?_;rintro e w1 ⟨rfl,ok⟩)
       go_ret;exact ⟨bP (HNO.out HR.out).symm,aA (aD _ _) ok⟩
     · rw [hrb] at HC HRL
       go_enter Tryz.func115,Tryz.ntmps115
       go_wp2_with (go_at_call 162;refine HC.out.mono ?_;rintro e w1 ⟨rfl,ok⟩;have HB1:Hid (Below w.heap.size w w1∧BxT w1 w.heap.size (.slice (some ⟨g,o,none⟩) L.length cap)):=⟨aA (aD _ _) ok,cE _ _ _ _ (BxT.new _ _) ok⟩;obtain ⟨_,z0,z1⟩:=HB1.out;clear ok)
       clear c0 c1 c2 c3 c4 c5 c6 c7 c8 HC hrb z0 z1 hg
       go_loopw [25] (fun i wr=>∃ k:Nat,k≤L.length∧i= .int .i64 k∧(Below w.heap.size w wr∧BxT wr w.heap.size (.slice (some ⟨g,o,none⟩) L.length cap))∧∀ j,j<k→j≠0→gZ L j=true) (fun i _=>L.length - (intOf i).toNat)
       case atStart=>exact ⟨0,Nat.zero_le _,rfl,HB1.out,fun j h=>by omega⟩
       case round=>
        obtain ⟨k,hk,rfl,⟨hb,bx0,bx1⟩,hall⟩:=hrel;have HALL:=aB hall;have HBX:Hid (BxT wr w.heap.size (.slice (some ⟨g,o,none⟩) L.length cap)):=⟨bx0,bx1⟩;have HB:=aB hb;clear hall
        by_cases hlt:k<L.length
        · rcases Nat.eq_zero_or_pos k with hk0|hk0
          · subst hk0
            clear bx0 bx1 hb;have HK:Hid (KeepP fun w1=>Below w.heap.size w w1∧BxT w1 w.heap.size (.slice (some ⟨g,o,none⟩) L.length cap)):=(aO w).and (cE _ _);have HO:Hid (Below w.heap.size w wr∧BxT wr w.heap.size (.slice (some ⟨g,o,none⟩) L.length cap)):=⟨HB.out,HBX.out⟩
            go_wp2_with fail
            refine cI HK (by kernel_rfl) (by kernel_rfl) (by first|exact HO.out|exact HK.out.drew HO.out) ?_;intro C HIN HOUT;clear HO
            repeat
             (with_reducible refine wpQuiet_step (fun K hK=> ?_)
              go_simp
              first
               |(refine hK _ ?_;clear hK K)
               |(apply Exists.intro;refine ⟨fun w1 hC=> ?_,hK _ ?_⟩;(focus ((first|(exact rfl)|(obtain ⟨hb1,⟨b0,b1⟩⟩:=HOUT.out w1 hC;clear hC;go_simp;first|done|exact rfl));done));clear hK K))
            refine wpQuiet_nil ?_;intro wn hC;have HO:=aB (HOUT.out _ hC);clear hC HIN HOUT C;obtain ⟨hb1,⟨b0,b1⟩⟩:=HO.out
            go_wp2
            exact ⟨⟨0+1,by omega,by go_num,HO.out,fun j h h2=>by omega⟩,by simp [intOf];omega⟩
          · obtain ⟨g',o',eg,u,v1,v2,v3,hd⟩:=HS.out wr hb k hlt
            cases eg;have HMC:Hid (∀ w1,Below w.heap.size w w1→DrIn w1 g (o+k*9) L[k] u v1 v2 v3→Calls Tryz.prog 163 #[.agg #[.slice (some ⟨g,o,none⟩) k cap],.agg #[u,.string L[k].pk.nm,.int .i64 L[k].pk.a,.int .i64 L[k].pk.b,.int .i64 L[k].pk.c,v1,v2,v3,.int .i64 L[k].nd]] w1 fun e w'=>e= .returned (.bool (gZ L k))∧Below w1.heap.size w1 w'):=fun w1 hb hd=>HMF.out w1 hb k hlt u v1 v2 v3 g _ hd
            have HNX:Hid (gZ L k=true→∀ j,j<k+1→j≠0→gZ L j=true):=fun h j hj h2=>by
             rcases Nat.lt_or_ge j k with hjk|hjk
             · exact HALL.out j hjk h2
             · obtain rfl:j=k:=by omega
               exact h
            have HBD:Hid (gZ L k=false→bR L=false):=fun h=>iT fun hh=>by have:=hh.2.2 k hlt (by omega);rw [h] at this;cases this
            obtain ⟨ua',uc',rfl⟩:=hd.2.1.1.sl;obtain ⟨p1,q1,rfl⟩:=hd.2.1.2.1.sl;obtain ⟨p2,q2,rfl⟩:=hd.2.1.2.2.1.sl;obtain ⟨p3,q3,rfl⟩:=hd.2.1.2.2.2.sl;generalize L[k]=dk at*;have HK:Hid (KeepP fun w1=>Below w.heap.size w w1∧BxT w1 w.heap.size (.slice (some ⟨g,o,none⟩) L.length cap)∧DrIn w1 g (o+k*9) dk (.slice ua' dk.pa.length uc') (.slice p1 dk.pk.d.length q1) (.slice p2 dk.pk.p.length q2) (.slice p3 dk.pk.o.length q3)):=(aO w).and ((cE _ _).and (oF _ _ _ _ _ _ _));have HO:Hid (Below w.heap.size w wr∧BxT wr w.heap.size (.slice (some ⟨g,o,none⟩) L.length cap)∧DrIn wr g (o+k*9) dk (.slice ua' dk.pa.length uc') (.slice p1 dk.pk.d.length q1) (.slice p2 dk.pk.p.length q2) (.slice p3 dk.pk.o.length q3)):=⟨HB.out,HBX.out,hd⟩;have hkc:k≤cap:=by omega
            have hki:((k:Int)>0)=True:=eq_true (by omega);have hki2:decide ((k:Int)>0)=true:=decide_eq_true (by omega);clear hd bx0 bx1 hb;cases hfo:gZ L k
            · have HR:=aB (HBD.out hfo)
              rw [hfo] at HMC;clear HNX HBD HALL
              go_wp2_with fail
              refine cI HK (by kernel_rfl) (by kernel_rfl) (by first|exact HO.out|exact HK.out.drew HO.out) ?_;intro C HIN HOUT;clear HO
              repeat
               (with_reducible refine wpQuiet_step (fun K hK=> ?_)
                go_simp
                first
                 |(refine hK _ ?_;clear hK K)
                 |(apply Exists.intro;refine ⟨fun w1 hC=> ?_,hK _ ?_⟩;(focus ((first|(go_at_call 163;with_reducible exact bA HIN HOUT HK (fun w1 hk=>HMC.out w1 hk.1 hk.2.2) w1 hC)|(exact rfl)|(obtain ⟨hb1,⟨b0,b1⟩,⟨⟨d0,d1,d2,d3,d4,d5,d6,d7,d8⟩,_,dg⟩⟩:=HOUT.out w1 hC;clear hC;go_simp;first|done|exact rfl));done));clear hK K))
              refine wpQuiet_nil ?_;intro wn hC;have HO:=aB (HOUT.out _ hC);clear hC HIN HOUT C;obtain ⟨hb1,⟨b0,b1⟩,⟨⟨d0,d1,d2,d3,d4,d5,d6,d7,d8⟩,_,dg⟩⟩:=HO.out
              go_wp2
              go_ret;exact ⟨bP (HNO.out HR.out).symm,HO.out.1⟩
            · have HR:=aB (HNX.out hfo)
              rw [hfo] at HMC;clear HNX HBD HALL
              go_wp2_with fail
              refine cI HK (by kernel_rfl) (by kernel_rfl) (by first|exact HO.out|exact HK.out.drew HO.out) ?_;intro C HIN HOUT;clear HO
              repeat
               (with_reducible refine wpQuiet_step (fun K hK=> ?_)
                go_simp
                first
                 |(refine hK _ ?_;clear hK K)
                 |(apply Exists.intro;refine ⟨fun w1 hC=> ?_,hK _ ?_⟩;(focus ((first|(go_at_call 163;with_reducible exact bA HIN HOUT HK (fun w1 hk=>HMC.out w1 hk.1 hk.2.2) w1 hC)|(exact rfl)|(obtain ⟨hb1,⟨b0,b1⟩,⟨⟨d0,d1,d2,d3,d4,d5,d6,d7,d8⟩,_,dg⟩⟩:=HOUT.out w1 hC;clear hC;go_simp;first|done|exact rfl));done));clear hK K))
              refine wpQuiet_nil ?_;intro wn hC;have HO:=aB (HOUT.out _ hC);clear hC HIN HOUT C;obtain ⟨hb1,⟨b0,b1⟩,⟨⟨d0,d1,d2,d3,d4,d5,d6,d7,d8⟩,_,dg⟩⟩:=HO.out
              go_wp2
              exact ⟨⟨k+1,by omega,by go_num,⟨HO.out.1,HO.out.2.1⟩,HR.out⟩,by simp [intOf];omega⟩
        · obtain rfl:k=L.length:=by omega
          have HR:Hid (bR L=true):=cJ.2 ⟨⟨hpos,by omega⟩,HRL.out,HALL.out⟩;clear hb
          go_wp2
          go_ret;exact ⟨bP (HYE.out HR.out).symm,HB.out⟩
end Go.Proofs.YtlmpiohbmlddiaaGreatDoor
namespace Go.Proofs.YtlmpiohbmlddiaaGreatDoor
open Go.Shelf Go.RowKit Go.Lib Go.Sort
set_option maxRecDepth 100000
structure Ord3 {α:Type} (f:α→α→Int):Prop where
 eq:∀ x y,f x y=0↔x=y
 anti:∀ x y,f x y<0↔0<f y x
 trans:∀ x y z,f x y<0→f y z<0→f x z<0
theorem Ord3.tri {α:Type} {f:α→α→Int} (h:Ord3 f) (x y:α):f x y<0∨x=y∨f y x<0:=by
 rcases Int.lt_trichotomy (f x y) 0 with q|q|q
 · exact Or.inl q
 · exact Or.inr (Or.inl ((h.eq _ _).1 q))
 · exact Or.inr (Or.inr ((h.anti _ _).2 q))
theorem Ord3.irr {α:Type} {f:α→α→Int} (h:Ord3 f) (x:α):f x x=0:=(h.eq x x).2 rfl
theorem Ord3.swo {α β:Type} {f:β→β→Int} (h:Ord3 f) (k:α→β):SWO (ltOf fun x y=>f (k x) (k y)) where
 irrefl x:=by show decide (f (k x) (k x)<0)=false;rw [h.irr];rfl
 trans x y z h1 h2:=by
  unfold ltOf at*;rw [decide_eq_true_iff] at*;exact h.trans _ _ _ h1 h2
 ntrans x y z h1 h2:=by
  unfold ltOf at*;rw [decide_eq_false_iff_not] at*;intro (q:f (k x) (k z)<0)
  rcases h.tri (k x) (k y) with p|p|p
  · exact h1 p
  · rw [p] at q
    exact h2 q
  · exact h2 (h.trans _ _ _ p q)
def dL (s t:ByteArray):Int:=Lib.compareBytes s.data.toList t.data.toList
theorem jM:∀ (a b:List UInt8),0<Lib.compareBytes a b↔Lib.compareBytes b a<0
 |[],[]=>by simp [Lib.compareBytes]
 |[],_::_=>by simp [Lib.compareBytes]
 |_::_,[]=>by simp [Lib.compareBytes]
 |a::ra,b::rb=>by
  have ih:=jM ra rb;unfold Lib.compareBytes
  by_cases h1:a<b
  · have h2:¬ b<a:=UInt8.not_lt.2 (UInt8.le_of_lt h1)
    rw [if_pos h1,if_neg h2,if_pos h1]
    simp
  · rw [if_neg h1]
    by_cases h2:b<a
    · rw [if_pos h2,if_pos h2]
      simp
    · rw [if_neg h2,if_neg h2,if_neg h1]
      exact ih
theorem RG {s t:ByteArray} (h:s.data.toList=t.data.toList):s=t:=aY (by rw [ByteArray.toList_eq,ByteArray.toList_eq];exact h)
theorem vW:Ord3 dL where
 eq x y:=by
  unfold dL;rw [oD];exact ⟨RG,fun e=>by rw [e]⟩
 anti x y:=by unfold dL;rw [jM]
 trans x y z h1 h2:=by
  unfold dL at*;rw [gP] at*;exact WideShapes.bytes_trans _ _ _ h1 h2
theorem OB (s t:ByteArray):dL s t=if bytesBefore s.data.toList t.data.toList=true then -1 else if bytesBefore t.data.toList s.data.toList=true then 1 else 0:=by
 have h:∀ a b:List UInt8,Lib.compareBytes a b= -1∨Lib.compareBytes a b=0∨Lib.compareBytes a b=1:=by
  intro a
  induction a with
  |nil=>intro b;cases b<;>simp [Lib.compareBytes]
  |cons x a ih=>
   intro b;cases b with
   |nil=>simp [Lib.compareBytes]
   |cons y b=>
    unfold Lib.compareBytes
    split
    · exact Or.inl rfl
    · split
      · exact Or.inr (Or.inr rfl)
      · exact ih b
 have h1:=gP s.data.toList t.data.toList;have h2:=gP t.data.toList s.data.toList;have h3:=jM s.data.toList t.data.toList;have h4:=h s.data.toList t.data.toList;unfold dL
 split
 · rename_i q
   have:=h1.2 q
   omega
 · rename_i q
   have q1:¬ Lib.compareBytes s.data.toList t.data.toList<0:=fun p=>q (h1.1 p)
   split
   · rename_i r
     have:=h3.2 (h2.2 r)
     omega
   · rename_i r
     have q2:¬ 0<Lib.compareBytes s.data.toList t.data.toList:=fun p=>r (h2.1 (h3.1 p))
     omega
end Go.Proofs.YtlmpiohbmlddiaaGreatDoor
namespace Go.Proofs.YtlmpiohbmlddiaaGreatDoor
open Go.Shelf Go.RowKit Go.Lib Go.Sort Go.Maps Go.WideMaps
set_option maxRecDepth 100000
set_option maxHeartbeats 1600000 in
theorem zX (x y:Fi) (w:World):Calls Tryz.prog 70 #[.agg (dG x).toArray,.agg (dG y).toArray] w fun e w'=>e= .returned (.int .i64 (dL x.pa y.pa))∧Gd w w':=by
 have HSC:Hid (∀ W,Calls Tryz.prog 71 #[.string x.pa,.string y.pa] W fun e w'=>e= .returned (.int .i64 (dL x.pa y.pa))∧w'=W):=fun W=>Tryz.strings_Compare x.pa y.pa W
 have HG0:Hid (Gd w ((w.alloc (.cells #[.string x.pa,.bool x.dr,.string x.da] 45)).alloc (.cells #[.string y.pa,.bool y.dr,.string y.da] 45))):=Gd.box2 _ _ _;unfold dG;generalize dL x.pa y.pa=r at*
 go_enter Tryz.func70,Tryz.ntmps70
 go_wp2_with (go_at_call 71;refine (HSC.out _).mono ?_;rintro e w1 ⟨rfl,rfl⟩)
 go_ret;exact ⟨rfl,HG0.out⟩
def jN (ts:List Fi):Prop:=ts.Pairwise fun x y=>¬ dL y.pa x.pa<0
theorem FD {w:World} {base:Nat} {v:Value} {V:List Fi} (hown:w.ownsRow base 45 3 v V.length (V.flatMap dG)) (hz:V.length≤1000000000):
 Calls Tryz.prog 123 #[v,.func (.func 70) #[] #[]] w fun e w'=>e= .returned (.tuple #[])∧∃ ts:List Fi,ts.Perm V∧jN ts∧w'.ownsRow base 45 3 v ts.length (ts.flatMap dG)∧w.grownBy w' v.ownBlock:=by
 haveI:Inhabited Fi:=⟨⟨⟨#[]⟩,false,⟨#[]⟩⟩⟩
 have eg:∀ args w,(callFunc 70 args).run Tryz.prog w= .ok (.enter 70 args) w:=enters_of Tryz.func70 (by kernel_rfl) rfl;have h:=JF Tryz.sortF 3 (by decide) Tryz.isAgg45 Tryz.sizeOf45 dG (fun _=>rfl) (fun x v hv=>by simp [dG] at hv;rcases hv with rfl|rfl|rfl<;>rfl) (fun x y=>dL x.pa y.pa) (vW.swo fun x:Fi=>x.pa) 70 eg (fun x y W=>zX x y W) hown (by omega);refine h.mono ?_;rintro e w' ⟨rfl,ts,h1,h2,h3,h4⟩;refine ⟨rfl,ts,h1,?_,h3,h4⟩;refine h2.imp fun {x y} q=> ?_
 unfold ltOf at q
 simpa using q
theorem vX (mb:Option Nat) (w:World):Calls Tryz.prog 24 #[.map mb] w fun e w'=>e= .returned (.func (.func 72) #[] #[.pointer (some ⟨w.heap.size,0,none⟩)])∧w'=w.alloc (.cells #[.map mb] 74):=by
 go_enter Tryz.func24,Tryz.ntmps24
 go_wp2
 go_ret;exact ⟨rfl,rfl⟩
theorem bK {w w':World} {mb n:Nat} {D:DataW Value} (h:w.ownsMap Tryz.prog 9 dV mb n D) (hb:Below w.heap.size w w'):w'.ownsMap Tryz.prog 9 dV mb n D:=by
 have hl:=h.lt;obtain ⟨es,clock,hbk,r⟩:=h;exact ⟨es,clock,by rw [hb.block mb hl];exact hbk,r⟩
theorem zY (n:Nat) (hn:1≤n) (Bm b nn:Nat) {L:List Fi} {D:DataW Value} (hD:MapF D L) (w:World) (hBm:Bm<w.heap.size) (hm:w.cell? ⟨Bm,0,none⟩=some (.map (some b))) (hown:w.ownsMap Tryz.prog 9 dV b nn D):
 SeqGives Fence.wide n Tryz.prog 72 #[.pointer (some ⟨Bm,0,none⟩)] eV (fun V=>V.Perm L) L.length w:=fun l J W hW hJ hY h0=>
 IJ n hn l Bm b nn hD J hY W hJ ((hW.cell (p:=⟨Bm,0,none⟩) hBm).trans hm) (bK hown hW) h0
theorem JQ (g:Nat) (lb:Array Value) (eg:∀ args w,(callFunc g args).run Tryz.prog w= .ok (.enter g args) w) (S:List Fi→Prop) (N:Nat) (hN:N≤1000000) (w:World) (hseq:EF Fence.wide 4 Tryz.prog g lb eV S N w):
 Calls Tryz.prog 122 #[.func (.func g) #[] lb] w fun e w'=>∃ (v:Value) (V:List Fi),e= .returned v∧S V∧w'.ownsRow w.heap.size 45 3 v V.length (V.flatMap dG)∧Below w.heap.size w w':=by
 have HAP:Hid (Calls Tryz.prog 166 #[.slice none 0 0,.func (.func g) #[] lb] w fun e w'=>∃ (v:Value) (V:List Fi),e= .returned v∧S V∧w'.ownsRow w.heap.size 45 3 v V.length (V.flatMap dG)∧Below w.heap.size w w'):=
  callsIn_wide.1 (zB 5 (by decide) g lb eg S N hN w hseq)
 clear hseq eg
 go_enter Tryz.func122,Tryz.ntmps122
 go_wp2_with (go_at_call 166;refine HAP.out.mono ?_;rintro e w1 ⟨v,V,rfl,hV,ho,hb⟩)
 go_ret;exact ⟨v,V,rfl,hV,ho,hb⟩
set_option maxHeartbeats 1600000 in
theorem tK (g:Nat) (lb:Array Value) (eg:∀ args w,(callFunc g args).run Tryz.prog w= .ok (.enter g args) w) (S:List Fi→Prop) (N:Nat) (hN:N≤1000000) (hSN:∀ V,S V→V.length≤1000000000) (w:World) (hseq:EF Fence.wide 4 Tryz.prog g lb eV S N w):
 Calls Tryz.prog 69 #[.func (.func g) #[] lb,.func (.func 70) #[] #[]] w fun e w'=>∃ (v:Value) (V ts:List Fi),e= .returned v∧S V∧(ts.Perm V∧jN ts)∧w'.ownsRow w.heap.size 45 3 v ts.length (ts.flatMap dG)∧Below w.heap.size w w':=by
 have HCO:=aB (JQ g lb eg S N hN w hseq);have HSN:=aB hSN;have HSO:Hid (∀ (W:World) (v:Value) (V:List Fi),W.ownsRow w.heap.size 45 3 v V.length (V.flatMap dG)→V.length≤1000000000→Calls Tryz.prog 123 #[v,.func (.func 70) #[] #[]] W fun e w'=>e= .returned (.tuple #[])∧∃ ts:List Fi,ts.Perm V∧jN ts∧w'.ownsRow w.heap.size 45 3 v ts.length (ts.flatMap dG)∧W.grownBy w' v.ownBlock):=fun W v V ho hz=>FD ho hz
 clear hseq eg hSN
 go_enter Tryz.func69,Tryz.ntmps69
 go_wp2_with (first
  |(go_at_call 122;refine HCO.out.mono ?_;rintro e w1 ⟨v,V,rfl,hV,ho,hb⟩;have HV:=aB hV;have HO:=aB ho;have HB:=aB hb;clear hV ho hb)
  |(go_at_call 123;refine (HSO.out _ _ _ HO.out (HSN.out _ HV.out)).mono ?_;rintro e w2 ⟨rfl,ts,hp,hs,ho,hg⟩;have HR:Hid ((ts.Perm V∧jN ts)∧w2.ownsRow w.heap.size 45 3 v ts.length (ts.flatMap dG)∧Below w.heap.size w w2):=⟨⟨hp,hs⟩,ho,HB.out.grown hg HB.out.size (fun k hk=>(World.ownsRow.lt HO.out k hk).1)⟩;clear hp hs ho hg))
 go_ret;exact ⟨v,V,ts,rfl,HV.out,HR.out.1,HR.out.2.1,HR.out.2.2⟩
theorem mI (g:Nat) (lb:Array Value) (eg:∀ args w,(callFunc g args).run Tryz.prog w= .ok (.enter g args) w) (S:List Fi→Prop) (N:Nat) (hN:N≤1000000) (hSN:∀ V,S V→V.length≤1000000000) (w:World) (hseq:EF Fence.wide 4 Tryz.prog g lb eV S N w):
 Calls Tryz.prog 23 #[.func (.func g) #[] lb] w fun e w'=>∃ (v:Value) (V ts:List Fi),e= .returned v∧S V∧(ts.Perm V∧jN ts)∧w'.ownsRow w.heap.size 45 3 v ts.length (ts.flatMap dG)∧Below w.heap.size w w':=by
 have HS:=aB (tK g lb eg S N hN hSN w hseq);clear hseq eg hSN
 go_enter Tryz.func23,Tryz.ntmps23
 go_wp2_with (go_at_call 69;refine HS.out.mono ?_;rintro e w1 ⟨v,V,ts,rfl,hV,hp,ho,hb⟩)
 go_ret;exact ⟨v,V,ts,rfl,hV,hp,ho,hb⟩
end Go.Proofs.YtlmpiohbmlddiaaGreatDoor
namespace Go.Proofs.YtlmpiohbmlddiaaGreatDoor
open Go.RowKit
set_option maxRecDepth 100000
theorem PZ {n:Nat} (h:n≤9223372036854775807):IntKind.i64.wrap (n:Int)=n:=by
 simp [IntKind.wrap,IntKind.bits,IntKind.signed];omega
def aL (L:List ByteArray):ByteArray:=⟨(aJ L).toArray⟩
theorem bV (L:List ByteArray):(aL L).size=(aJ L).length:=by show (aJ L).toArray.size=_;simp
theorem vY (L:List ByteArray) (s:ByteArray):aL (L++[s])=aL L++cW++s:=by
 refine aY ?_;rw [ByteArray.toList_eq,ByteArray.toList_eq,bQ,bQ];simp [aL,dY]
end Go.Proofs.YtlmpiohbmlddiaaGreatDoor
namespace Go.Proofs.YtlmpiohbmlddiaaGreatDoor.Sc
open Go.RowKit
set_option maxRecDepth 100000
def TS:Except Nat (List (List Bs))→Int
 | .ok _=>0
 | .error _=>22
def TT:Except Nat (List (List Bs))→List (List Bs)
 | .ok L=>L
 | .error _=>[]
theorem FE (s:ByteArray) (hs:s.size≤281474976710656) (w:World):Calls Tryz.prog 109 #[.string s] w fun e w'=>e= .returned (.string s)∧Below w.heap.size w w':=by
 have HC:=aB (Tryz.stringslite_Clone s w hs)
 go_enter Tryz.func109,Tryz.ntmps109
 go_wp2_with (go_at_call 155;refine HC.out.mono ?_;rintro e w1 ⟨rfl,hb⟩;have HB:=aB hb;clear hb)
 go_ret;exact ⟨rfl,HB.out⟩
def zZ (t:ByteArray) (most:Int):Int:=if most<(t.size:Int) then 25 else TS (kD t.data.toList [] [] [])
def jO (t:ByteArray) (most:Int):List (List Bs):=if most<(t.size:Int) then [] else TT (kD t.data.toList [] [] [])
end Go.Proofs.YtlmpiohbmlddiaaGreatDoor.Sc
