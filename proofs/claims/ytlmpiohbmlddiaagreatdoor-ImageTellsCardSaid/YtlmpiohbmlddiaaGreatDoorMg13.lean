/- Rk5, Rk6, Rk9, Rk7d: their declarations that are needed, laid in one text, remarks and blanks left out. -/
import Derived.Test.YtlmpiohbmlddiaaGreatDoorMg08
import Derived.Test.YtlmpiohbmlddiaaGreatDoorMg12
namespace Go.Proofs.YtlmpiohbmlddiaaGreatDoor
open Go.RowKit
set_option maxRecDepth 100000
theorem JH {L:List Sp} {u:Value} {w:World} (h:cG L=true) (hu:SpansC w u L):Calls Tryz.prog 180 #[u] w fun e w'=>e= .returned (.string (prS L))∧Below w.heap.size w w':=by
 have hmay:=nP hu.1;unfold cG at h;rw [Bool.and_eq_true,decide_eq_true_eq] at h;rw [h.2] at hmay;obtain ⟨A,rfl,hA,hl⟩:=oZ.1 h.2;have hne:A≠[]:=by rintro rfl;simp at h
 unfold prS;rw [MK hA];obtain ⟨ad,cap,rfl,hc,hs⟩:=hu.rg
 rcases hs with rfl|⟨g,o,rfl,hg,hs⟩
 · exact absurd rfl hne
 · exact xW A hA hne g o cap w hl hg hs hmay
theorem UL (a b:ByteArray):(a++b).data.toList=a.data.toList++b.data.toList:=by simp
theorem bF (a b:ByteArray):(a++b).size=a.size+b.size:=by simp
set_option maxHeartbeats 3200000 in
theorem CL {v:Value} {L:List Dp} {x:ByteArray} {w:World} (hd:DepsAt w v L) (hm:aO L=true) (hx:x.size≤16):
 Calls Tryz.prog 132 #[.string x,v] w fun e w'=>∃ T:ByteArray,e= .returned (.string T)∧T.data.toList=aY x L∧Below w.heap.size w w':=by
 have HD:Hid (∀ w',Below w.heap.size w w'→DepsAt w' v L):=fun w' hb=>hd.below hb
 have HAll:Hid (∀ d ∈ L,d.nm.size≤16∧cG d.rg=true):=by
  have:=hm
  unfold aO at this;rw [Bool.and_eq_true] at this;exact mE this.2
 have HLN:=aA (cO hx hm);have h16:=(bK hm).1;obtain ⟨ad,cap,rfl⟩:=hd.sl;clear hd hm
 go_enter Tryz.func132,Tryz.ntmps132
 go_wp2_with fail
 go_loopw [5,6] (fun vt i wr=>∃ (k:Nat) (T:ByteArray),k≤L.length∧i= .int .i64 k∧vt= .string T∧T.data.toList=aY x (L.take k)∧Below w.heap.size w wr) (fun _ i _=>L.length - (intOf i).toNat)
 case atStart=>exact ⟨0,⟨#[]⟩,Nat.zero_le _,rfl,rfl,rfl,Below.refl _ _⟩
 case round=>
  obtain ⟨k,T,hk,rfl,rfl,hT,hb⟩:=hrel;have HT:=aA hT;have HB:=aA hb
  by_cases hlt:k<L.length
  · obtain ⟨ad',cap',e,_,hcs⟩:=HD.out wr hb
    cases e
    obtain ⟨g,o,rfl,hg,hcs⟩:∃ g o,ad=some ⟨g,o,none⟩∧g<wr.heap.size∧∀ i (h:i<L.length),∃ u,DpIn wr g (o+i*2) L[i] u:=by
     rcases hcs with h|h
     · rw [h] at hlt;simp at hlt
     · exact h
    obtain ⟨u,hu⟩:=hcs k hlt;obtain ⟨hn16,hrb⟩:=HAll.out _ (List.getElem_mem hlt);have hpz:=qA hrb;have HSN:=aA (qB (x:=x) hlt);have hTz:T.size≤80000:=by rw [←aK,hT];exact HLN.out k
    have HO:Hid (Below w.heap.size w wr∧DpIn wr g (o+k*2) L[k] u):=⟨hb,hu⟩;have HK:Hid (KeepP fun w1=>Below w.heap.size w w1∧DpIn w1 g (o+k*2) L[k] u):=(aD w).and (jN _ _ _ _);have HC:Hid (∀ w1,(Below w.heap.size w w1∧DpIn w1 g (o+k*2) L[k] u)→Calls Tryz.prog 180 #[u] w1 fun e w'=>e= .returned (.string (prS L[k].rg))∧Below w1.heap.size w1 w'):=fun w1 h=>JH hrb h.2.2.2.1.1
    obtain ⟨au,cu,rfl⟩:=hu.2.2.1.1.1.sl;clear hcs hu hb hT hrb;generalize prS L[k].rg=rt at*;generalize L[k]=d at*;have z1:(⟨#[32]⟩:ByteArray).size=1:=rfl;have z2:(⟨#[10]⟩:ByteArray).size=1:=rfl;have e1:=fun W:World=>run_string_add_sum (P:=Tryz.prog) (w:=W) T x (by omega)
    have e2:=fun W:World=>run_string_add_sum (P:=Tryz.prog) (w:=W) (T++x) ⟨#[32]⟩ (by rw [bF];omega)
    have e3:=fun W:World=>run_string_add_sum (P:=Tryz.prog) (w:=W) (T++x++⟨#[32]⟩) d.nm (by rw [bF,bF];omega)
    have e4:=fun W:World=>run_string_add_sum (P:=Tryz.prog) (w:=W) (T++x++⟨#[32]⟩++d.nm) ⟨#[32]⟩ (by rw [bF,bF,bF];omega)
    have e5:=fun W:World=>run_string_add_sum (P:=Tryz.prog) (w:=W) (T++x++⟨#[32]⟩++d.nm++⟨#[32]⟩) rt (by rw [bF,bF,bF,bF];omega)
    have e6:=fun W:World=>run_string_add_sum (P:=Tryz.prog) (w:=W) (T++x++⟨#[32]⟩++d.nm++⟨#[32]⟩++rt) ⟨#[10]⟩ (by rw [bF,bF,bF,bF,bF];omega)
    clear z1 z2
    go_wp2_with fail
    refine aM HK (by kernel_rfl) (by kernel_rfl) (by first|exact HO.out|exact HK.out.drew HO.out) ?_;intro C HIN HOUT;clear HO
    repeat
     (with_reducible refine wpQuiet_step (fun K hK=> ?_)
      go_simp
      first
       |(refine hK _ ?_;clear hK K)
       |(apply Exists.intro;refine ⟨fun w1 hC=> ?_,hK _ ?_⟩;(focus ((first|(go_at_call 180;with_reducible exact aW HIN HOUT HK HC.out w1 hC)|(exact rfl)|(obtain ⟨hb1,⟨p0,p1,ph,p3⟩⟩:=HOUT.out w1 hC;clear hC;go_simp;first|done|exact rfl));done));clear hK K))
    refine wpQuiet_nil ?_;intro wn hC;have HO:=aA (HOUT.out _ hC);clear hC HIN HOUT C;obtain ⟨hb1,⟨p0,p1,ph,p3⟩⟩:=HO.out
    go_wp2
    refine ⟨⟨k+1,_,by omega,by go_num,rfl,?_,HO.out.1⟩,by simp [intOf];omega⟩;rw [HSN.out,←HT.out];unfold gU
    simp
  · obtain rfl:k=L.length:=by omega
    rw [List.take_length] at HT;clear hb hT
    go_wp2
    go_ret;exact ⟨T,rfl,HT.out,HB.out⟩
theorem fC {v:Value} {L:List Dp} {x:ByteArray} {w:World} (hd:DepsAt w v L) (hm:aO L=true) (hx:x.size≤16):
 Calls Tryz.prog 132 #[.string x,v] w fun e w'=>e= .returned (.string ⟨(aY x L).toArray⟩)∧Below w.heap.size w w':=by
 refine (CL hd hm hx).mono ?_;rintro e w' ⟨T,rfl,hT,hb⟩;refine ⟨?_,hb⟩;rw [←hT]
theorem eO (l:Sc.Bs):(⟨l.toArray⟩:ByteArray).size=l.length:=by show l.toArray.size=_;simp
set_option maxHeartbeats 3200000 in
theorem tM {P:Pg} {v1 v2 v3:Value} {w:World} (h:PgAt w P v1 v2 v3) (hn:P.nm.size≤16) (h1:aO P.d=true) (h2:aO P.p=true) (h3:aO P.o=true):
 Calls Tryz.prog 84 #[.agg #[.string P.nm,.int .i64 P.a,.int .i64 P.b,.int .i64 P.c,v1,v2,v3]] w fun e w'=>e= .returned (.string ⟨(eT P).toArray⟩)∧Below w.heap.size w w':=by
 have HL1:Hid (∀ w1,Below w.heap.size w w1→Calls Tryz.prog 132 #[.string (lwK 0),v1] w1 fun e w'=>e= .returned (.string ⟨(aY (lwK 0) P.d).toArray⟩)∧Below w1.heap.size w1 w'):=fun w1 hb=>fC (h.1.below hb) h1 (eH 0)
 have HL2:Hid (∀ w1,Below w.heap.size w w1→Calls Tryz.prog 132 #[.string (lwK 1),v2] w1 fun e w'=>e= .returned (.string ⟨(aY (lwK 1) P.p).toArray⟩)∧Below w1.heap.size w1 w'):=fun w1 hb=>fC (h.2.1.below hb) h2 (eH 1)
 have HL3:Hid (∀ w1,Below w.heap.size w w1→Calls Tryz.prog 132 #[.string (lwK 2),v3] w1 fun e w'=>e= .returned (.string ⟨(aY (lwK 2) P.o).toArray⟩)∧Below w1.heap.size w1 w'):=fun w1 hb=>fC (h.2.2.below hb) h3 (eH 2)
 have HPV:Hid (∀ w1,Calls Tryz.prog 136 #[.agg #[.int .i64 P.a,.int .i64 P.b,.int .i64 P.c]] w1 fun e w'=>e= .returned (.string (aS P.a P.b P.c))∧Below w1.heap.size w1 w'):=fun w1=>eW _ _ _ w1
 have s1:(⟨(aY (lwK 0) P.d).toArray⟩:ByteArray).size≤80000:=by have:=cO (eH 0) h1 P.d.length;rw [List.take_length] at this;rw [eO];exact this
 have s2:(⟨(aY (lwK 1) P.p).toArray⟩:ByteArray).size≤80000:=by have:=cO (eH 1) h2 P.p.length;rw [List.take_length] at this;rw [eO];exact this
 have s3:(⟨(aY (lwK 2) P.o).toArray⟩:ByteArray).size≤80000:=by have:=cO (eH 2) h3 P.o.length;rw [List.take_length] at this;rw [eO];exact this
 have sv:=cX P.a P.b P.c
 have HTX:Hid ((⟨#[112,97,99,107,97,103,101,32]⟩++P.nm++⟨#[32]⟩++aS P.a P.b P.c++⟨#[10]⟩++⟨(aY (lwK 0) P.d).toArray⟩++⟨(aY (lwK 1) P.p).toArray⟩++⟨(aY (lwK 2) P.o).toArray⟩:ByteArray)=⟨(eT P).toArray⟩):=by
  refine gE ?_;simp only [UL];unfold eT gU
  simp
 have k0:lwK 0=⟨#[110,101,101,100,115]⟩:=rfl;have k1:lwK 1=⟨#[98,101,115,105,100,101]⟩:=rfl;have k2:lwK 2=⟨#[108,105,107,101,115]⟩:=rfl;obtain ⟨a1,c1,rfl⟩:=h.1.sl;obtain ⟨a2,c2,rfl⟩:=h.2.1.sl;obtain ⟨a3,c3,rfl⟩:=h.2.2.sl;clear h h1 h2 h3;generalize eT P=TP at*;generalize (⟨(aY (lwK 0) P.d).toArray⟩:ByteArray)=T1 at*;generalize (⟨(aY (lwK 1) P.p).toArray⟩:ByteArray)=T2 at*;generalize (⟨(aY (lwK 2) P.o).toArray⟩:ByteArray)=T3 at*;generalize aS P.a P.b P.c=TV at*;rw [k0] at HL1;rw [k1] at HL2;rw [k2] at HL3;clear k0 k1 k2;have z0:(⟨#[112,97,99,107,97,103,101,32]⟩:ByteArray).size=8:=rfl;have z1:(⟨#[32]⟩:ByteArray).size=1:=rfl;have z2:(⟨#[10]⟩:ByteArray).size=1:=rfl;have e1:=fun W:World=>run_string_add_sum (P:=Tryz.prog) (w:=W) (⟨#[112,97,99,107,97,103,101,32]⟩) P.nm (by omega)
 have e2:=fun W:World=>run_string_add_sum (P:=Tryz.prog) (w:=W) (⟨#[112,97,99,107,97,103,101,32]⟩++P.nm) ⟨#[32]⟩ (by rw [bF];omega)
 have e3:=fun W:World=>run_string_add_sum (P:=Tryz.prog) (w:=W) (⟨#[112,97,99,107,97,103,101,32]⟩++P.nm++⟨#[32]⟩) TV (by rw [bF,bF];omega)
 have e4:=fun W:World=>run_string_add_sum (P:=Tryz.prog) (w:=W) (⟨#[112,97,99,107,97,103,101,32]⟩++P.nm++⟨#[32]⟩++TV) ⟨#[10]⟩ (by rw [bF,bF,bF];omega)
 have e5:=fun W:World=>run_string_add_sum (P:=Tryz.prog) (w:=W) (⟨#[112,97,99,107,97,103,101,32]⟩++P.nm++⟨#[32]⟩++TV++⟨#[10]⟩) T1 (by rw [bF,bF,bF,bF];omega)
 have e6:=fun W:World=>run_string_add_sum (P:=Tryz.prog) (w:=W) (⟨#[112,97,99,107,97,103,101,32]⟩++P.nm++⟨#[32]⟩++TV++⟨#[10]⟩++T1) T2 (by rw [bF,bF,bF,bF,bF];omega)
 have e7:=fun W:World=>run_string_add_sum (P:=Tryz.prog) (w:=W) (⟨#[112,97,99,107,97,103,101,32]⟩++P.nm++⟨#[32]⟩++TV++⟨#[10]⟩++T1++T2) T3 (by rw [bF,bF,bF,bF,bF,bF];omega)
 clear z0 z1 z2 s1 s2 s3 sv;have HO:Hid (Below w.heap.size w (w.alloc (.cells #[.string P.nm,.int .i64 P.a,.int .i64 P.b,.int .i64 P.c,.slice a1 P.d.length c1,.slice a2 P.p.length c2,.slice a3 P.o.length c3] 54))∧BxP (w.alloc (.cells #[.string P.nm,.int .i64 P.a,.int .i64 P.b,.int .i64 P.c,.slice a1 P.d.length c1,.slice a2 P.p.length c2,.slice a3 P.o.length c3] 54)) w.heap.size P.nm P.a P.b P.c (.slice a1 P.d.length c1) (.slice a2 P.p.length c2) (.slice a3 P.o.length c3)):=⟨aF _ _,BxP.new rfl _ _ _ _ _ _ _⟩;have HK:Hid (KeepP fun w1=>Below w.heap.size w w1∧BxP w1 w.heap.size P.nm P.a P.b P.c (.slice a1 P.d.length c1) (.slice a2 P.p.length c2) (.slice a3 P.o.length c3)):=(aD w).and (bZ _ _ _ _ _ _ _ _)
 have HC1:Hid (∀ w1,(Below w.heap.size w w1∧BxP w1 w.heap.size P.nm P.a P.b P.c (.slice a1 P.d.length c1) (.slice a2 P.p.length c2) (.slice a3 P.o.length c3))→Calls Tryz.prog 132 #[.string ⟨#[110,101,101,100,115]⟩,.slice a1 P.d.length c1] w1 fun e w'=>e= .returned (.string T1)∧Below w1.heap.size w1 w'):=fun w1 hh=>HL1.out w1 hh.1
 have HC2:Hid (∀ w1,(Below w.heap.size w w1∧BxP w1 w.heap.size P.nm P.a P.b P.c (.slice a1 P.d.length c1) (.slice a2 P.p.length c2) (.slice a3 P.o.length c3))→Calls Tryz.prog 132 #[.string ⟨#[98,101,115,105,100,101]⟩,.slice a2 P.p.length c2] w1 fun e w'=>e= .returned (.string T2)∧Below w1.heap.size w1 w'):=fun w1 hh=>HL2.out w1 hh.1
 have HC3:Hid (∀ w1,(Below w.heap.size w w1∧BxP w1 w.heap.size P.nm P.a P.b P.c (.slice a1 P.d.length c1) (.slice a2 P.p.length c2) (.slice a3 P.o.length c3))→Calls Tryz.prog 132 #[.string ⟨#[108,105,107,101,115]⟩,.slice a3 P.o.length c3] w1 fun e w'=>e= .returned (.string T3)∧Below w1.heap.size w1 w'):=fun w1 hh=>HL3.out w1 hh.1
 clear HL1 HL2 HL3
 go_enter Tryz.func84,Tryz.ntmps84
 go_wp2_with fail
 refine aM HK (by kernel_rfl) (by kernel_rfl) (by first|exact HO.out|exact HK.out.drew HO.out) ?_;intro C HIN HOUT;clear HO
 repeat
  (with_reducible refine wpQuiet_step (fun K hK=> ?_)
   go_simp
   first
    |(refine hK _ ?_;clear hK K)
    |(apply Exists.intro;refine ⟨fun w1 hC=> ?_,hK _ ?_⟩;(focus ((first|(go_at_call 136;with_reducible exact aP HIN HOUT HK HPV.out w1 hC)|(go_at_call 132;with_reducible exact aW HIN HOUT HK HC1.out w1 hC)|(go_at_call 132;with_reducible exact aW HIN HOUT HK HC2.out w1 hC)|(go_at_call 132;with_reducible exact aW HIN HOUT HK HC3.out w1 hC)|(exact rfl)|(obtain ⟨hb1,⟨y0,y1,y2,y3,y4,y5,y6,y7⟩⟩:=HOUT.out w1 hC;clear hC;go_simp;first|done|exact rfl));done));clear hK K))
 refine wpQuiet_nil ?_;intro wn hC;have HO:=aA (HOUT.out _ hC);clear hC HIN HOUT C;obtain ⟨hb1,⟨y0,y1,y2,y3,y4,y5,y6,y7⟩⟩:=HO.out
 go_wp2
 go_ret;exact ⟨congrArg (fun s=>Ending.returned (.string s)) HTX.out,HO.out.1⟩
def MX (P:Pg):Bool:=Sc.aH P.nm.data.toList&&aU P.a P.b P.c&&(aO P.d&&(aO P.p&&aO P.o))&&(bM P.d P.p&&(bM P.d P.o&&bM P.p P.o))&&decide ((eT P).length≤4096)
set_option maxHeartbeats 6400000 in
theorem FH {P:Pg} {v1 v2 v3:Value} {w:World} (h:PgAt w P v1 v2 v3) (hz:P.d.length≤9223372036854775807∧P.p.length≤9223372036854775807∧P.o.length≤9223372036854775807) (hn:P.nm.size≤9223372036854775807∧(∀ d ∈ P.d,d.nm.size≤9223372036854775807)∧(∀ d ∈ P.p,d.nm.size≤9223372036854775807)∧∀ d ∈ P.o,d.nm.size≤9223372036854775807):
 Calls Tryz.prog 83 #[.agg #[.string P.nm,.int .i64 P.a,.int .i64 P.b,.int .i64 P.c,v1,v2,v3]] w fun e w'=>e= .returned (.bool (MX P))∧Below w.heap.size w w':=by
 obtain ⟨a1,c1,rfl⟩:=h.1.sl;obtain ⟨a2,c2,rfl⟩:=h.2.1.sl;obtain ⟨a3,c3,rfl⟩:=h.2.2.sl;have HN:Hid (∀ w1,Below w.heap.size w w1→Calls Tryz.prog 82 #[.string P.nm] w1 fun e w'=>e= .returned (.bool (Sc.aH P.nm.data.toList))∧Below w1.heap.size w1 w'):=fun w1 _=>(Sc.eJ P.nm hn.1 w1).mono fun e w' ⟨h1,h2⟩=>⟨h1,by rw [h2];exact Below.refl _ _⟩
 have HV:Hid (∀ w1,Below w.heap.size w w1→Calls Tryz.prog 133 #[.agg #[.int .i64 P.a,.int .i64 P.b,.int .i64 P.c]] w1 fun e w'=>e= .returned (.bool (aU P.a P.b P.c))∧Below w1.heap.size w1 w'):=fun w1 _=>fG _ _ _ w1
 have H1:Hid (∀ w1,Below w.heap.size w w1→Calls Tryz.prog 130 #[.slice a1 P.d.length c1] w1 fun e w'=>e= .returned (.bool (aO P.d))∧Below w1.heap.size w1 w'):=fun w1 hb=>fB (h.1.below hb) hz.1 hn.2.1
 have H2:Hid (∀ w1,Below w.heap.size w w1→Calls Tryz.prog 130 #[.slice a2 P.p.length c2] w1 fun e w'=>e= .returned (.bool (aO P.p))∧Below w1.heap.size w1 w'):=fun w1 hb=>fB (h.2.1.below hb) hz.2.1 hn.2.2.1
 have H3:Hid (∀ w1,Below w.heap.size w w1→Calls Tryz.prog 130 #[.slice a3 P.o.length c3] w1 fun e w'=>e= .returned (.bool (aO P.o))∧Below w1.heap.size w1 w'):=fun w1 hb=>fB (h.2.2.below hb) hz.2.2 hn.2.2.2
 have A12:Hid (aO P.d=true→aO P.p=true→∀ w1,Below w.heap.size w w1→Calls Tryz.prog 131 #[.slice a1 P.d.length c1,.slice a2 P.p.length c2] w1 fun e w'=>e= .returned (.bool (bM P.d P.p))∧Below w1.heap.size w1 w'):=fun g1 g2 w1 hb=>fA (h.1.below hb) (h.2.1.below hb) ⟨by have:=(bK g1).1;omega,by have:=(bK g2).1;omega⟩
 have A13:Hid (aO P.d=true→aO P.o=true→∀ w1,Below w.heap.size w w1→Calls Tryz.prog 131 #[.slice a1 P.d.length c1,.slice a3 P.o.length c3] w1 fun e w'=>e= .returned (.bool (bM P.d P.o))∧Below w1.heap.size w1 w'):=fun g1 g2 w1 hb=>fA (h.1.below hb) (h.2.2.below hb) ⟨by have:=(bK g1).1;omega,by have:=(bK g2).1;omega⟩
 have A23:Hid (aO P.p=true→aO P.o=true→∀ w1,Below w.heap.size w w1→Calls Tryz.prog 131 #[.slice a2 P.p.length c2,.slice a3 P.o.length c3] w1 fun e w'=>e= .returned (.bool (bM P.p P.o))∧Below w1.heap.size w1 w'):=fun g1 g2 w1 hb=>fA (h.2.1.below hb) (h.2.2.below hb) ⟨by have:=(bK g1).1;omega,by have:=(bK g2).1;omega⟩
 have HT:Hid (Sc.aH P.nm.data.toList=true→aO P.d=true→aO P.p=true→aO P.o=true→∀ w1,Below w.heap.size w w1→Calls Tryz.prog 84 #[.agg #[.string P.nm,.int .i64 P.a,.int .i64 P.b,.int .i64 P.c,.slice a1 P.d.length c1,.slice a2 P.p.length c2,.slice a3 P.o.length c3]] w1 fun e w'=>e= .returned (.string ⟨(eT P).toArray⟩)∧Below w1.heap.size w1 w'):=fun g0 g1 g2 g3 w1 hb=>tM (h.below hb) (by unfold Sc.aH at g0;rw [Bool.and_eq_true,decide_eq_true_eq,aK] at g0;exact g0.2) g1 g2 g3
 have HD:Hid (MX P=(Sc.aH P.nm.data.toList&&aU P.a P.b P.c&&(aO P.d&&(aO P.p&&aO P.o))&&(bM P.d P.p&&(bM P.d P.o&&bM P.p P.o))&&decide ((eT P).length≤4096))):=rfl;have HZ:Hid ((⟨(eT P).toArray⟩:ByteArray).size=(eT P).length):=eO _;clear h hz hn;generalize MX P=DB at*;generalize Sc.aH P.nm.data.toList=b0 at*;generalize aU P.a P.b P.c=bv at*;generalize aO P.d=b1 at*;generalize aO P.p=b2 at*;generalize aO P.o=b3 at*;generalize bM P.d P.p=p12 at*;generalize bM P.d P.o=p13 at*;generalize bM P.p P.o=p23 at*;generalize (⟨(eT P).toArray⟩:ByteArray)=TX at*;generalize (eT P).length=tl at*;cases b0
 · skip
   have HR:Hid (DB=false):=by unfold Hid;rw [HD.out];simp
   have HK0:Hid (KeepP fun w1=>(Below w.heap.size w w1)∧BxP w1 w.heap.size P.nm P.a P.b P.c (.slice a1 P.d.length c1) (.slice a2 P.p.length c2) (.slice a3 P.o.length c3)):=(KeepP.and (aD w) (bZ _ _ _ _ _ _ _ _));have HO0:Hid ((Below w.heap.size w (w.alloc (.cells #[.string P.nm,.int .i64 P.a,.int .i64 P.b,.int .i64 P.c,.slice a1 P.d.length c1,.slice a2 P.p.length c2,.slice a3 P.o.length c3] 54)))∧BxP (w.alloc (.cells #[.string P.nm,.int .i64 P.a,.int .i64 P.b,.int .i64 P.c,.slice a1 P.d.length c1,.slice a2 P.p.length c2,.slice a3 P.o.length c3] 54)) w.heap.size P.nm P.a P.b P.c (.slice a1 P.d.length c1) (.slice a2 P.p.length c2) (.slice a3 P.o.length c3)):=⟨aF _ _,BxP.new rfl _ _ _ _ _ _ _⟩;obtain ⟨g0,g1,g2,g3,g4,g5,g6,g7⟩:=HO0.out.2
   go_enter Tryz.func83,Tryz.ntmps83
   go_wp2_with (first
    |(have _h:=HO0;go_at_call 82;refine (HN.out _ (HO0.out.1)).mono ?_;rintro e y1 ⟨rfl,ok⟩;have HO1:Hid ((Below w.heap.size w y1)∧BxP y1 w.heap.size P.nm P.a P.b P.c (.slice a1 P.d.length c1) (.slice a2 P.p.length c2) (.slice a3 P.o.length c3)):=HK0.out _ _ HO0.out ok;clear ok HO0 g0 g1 g2 g3 g4 g5 g6 g7;obtain ⟨g0,g1,g2,g3,g4,g5,g6,g7⟩:=HO1.out.2))
   go_ret;exact ⟨aC HR.out.symm,HO1.out.1⟩
 · cases bv
   · skip
     have HR:Hid (DB=false):=by unfold Hid;rw [HD.out];simp
     have HK0:Hid (KeepP fun w1=>(Below w.heap.size w w1)∧BxP w1 w.heap.size P.nm P.a P.b P.c (.slice a1 P.d.length c1) (.slice a2 P.p.length c2) (.slice a3 P.o.length c3)):=(KeepP.and (aD w) (bZ _ _ _ _ _ _ _ _));have HO0:Hid ((Below w.heap.size w (w.alloc (.cells #[.string P.nm,.int .i64 P.a,.int .i64 P.b,.int .i64 P.c,.slice a1 P.d.length c1,.slice a2 P.p.length c2,.slice a3 P.o.length c3] 54)))∧BxP (w.alloc (.cells #[.string P.nm,.int .i64 P.a,.int .i64 P.b,.int .i64 P.c,.slice a1 P.d.length c1,.slice a2 P.p.length c2,.slice a3 P.o.length c3] 54)) w.heap.size P.nm P.a P.b P.c (.slice a1 P.d.length c1) (.slice a2 P.p.length c2) (.slice a3 P.o.length c3)):=⟨aF _ _,BxP.new rfl _ _ _ _ _ _ _⟩;obtain ⟨g0,g1,g2,g3,g4,g5,g6,g7⟩:=HO0.out.2
     go_enter Tryz.func83,Tryz.ntmps83
     go_wp2_with (first
      |(have _h:=HO0;go_at_call 82;refine (HN.out _ (HO0.out.1)).mono ?_;rintro e y1 ⟨rfl,ok⟩;have HO1:Hid ((Below w.heap.size w y1)∧BxP y1 w.heap.size P.nm P.a P.b P.c (.slice a1 P.d.length c1) (.slice a2 P.p.length c2) (.slice a3 P.o.length c3)):=HK0.out _ _ HO0.out ok;clear ok HO0 g0 g1 g2 g3 g4 g5 g6 g7;obtain ⟨g0,g1,g2,g3,g4,g5,g6,g7⟩:=HO1.out.2)
      |(have _h:=HO1;go_at_call 133;refine (HV.out _ (HO1.out.1)).mono ?_;rintro e y2 ⟨rfl,ok⟩;have HO2:Hid ((Below w.heap.size w y2)∧BxP y2 w.heap.size P.nm P.a P.b P.c (.slice a1 P.d.length c1) (.slice a2 P.p.length c2) (.slice a3 P.o.length c3)):=HK0.out _ _ HO1.out ok;clear ok HO1 g0 g1 g2 g3 g4 g5 g6 g7;obtain ⟨g0,g1,g2,g3,g4,g5,g6,g7⟩:=HO2.out.2))
     go_ret;exact ⟨aC HR.out.symm,HO2.out.1⟩
   · cases b1
     · skip
       have HR:Hid (DB=false):=by unfold Hid;rw [HD.out];simp
       have HK0:Hid (KeepP fun w1=>(Below w.heap.size w w1)∧BxP w1 w.heap.size P.nm P.a P.b P.c (.slice a1 P.d.length c1) (.slice a2 P.p.length c2) (.slice a3 P.o.length c3)):=(KeepP.and (aD w) (bZ _ _ _ _ _ _ _ _));have HO0:Hid ((Below w.heap.size w (w.alloc (.cells #[.string P.nm,.int .i64 P.a,.int .i64 P.b,.int .i64 P.c,.slice a1 P.d.length c1,.slice a2 P.p.length c2,.slice a3 P.o.length c3] 54)))∧BxP (w.alloc (.cells #[.string P.nm,.int .i64 P.a,.int .i64 P.b,.int .i64 P.c,.slice a1 P.d.length c1,.slice a2 P.p.length c2,.slice a3 P.o.length c3] 54)) w.heap.size P.nm P.a P.b P.c (.slice a1 P.d.length c1) (.slice a2 P.p.length c2) (.slice a3 P.o.length c3)):=⟨aF _ _,BxP.new rfl _ _ _ _ _ _ _⟩;obtain ⟨g0,g1,g2,g3,g4,g5,g6,g7⟩:=HO0.out.2
       go_enter Tryz.func83,Tryz.ntmps83
       go_wp2_with (first
        |(have _h:=HO0;go_at_call 82;refine (HN.out _ (HO0.out.1)).mono ?_;rintro e y1 ⟨rfl,ok⟩;have HO1:Hid ((Below w.heap.size w y1)∧BxP y1 w.heap.size P.nm P.a P.b P.c (.slice a1 P.d.length c1) (.slice a2 P.p.length c2) (.slice a3 P.o.length c3)):=HK0.out _ _ HO0.out ok;clear ok HO0 g0 g1 g2 g3 g4 g5 g6 g7;obtain ⟨g0,g1,g2,g3,g4,g5,g6,g7⟩:=HO1.out.2)
        |(have _h:=HO1;go_at_call 133;refine (HV.out _ (HO1.out.1)).mono ?_;rintro e y2 ⟨rfl,ok⟩;have HO2:Hid ((Below w.heap.size w y2)∧BxP y2 w.heap.size P.nm P.a P.b P.c (.slice a1 P.d.length c1) (.slice a2 P.p.length c2) (.slice a3 P.o.length c3)):=HK0.out _ _ HO1.out ok;clear ok HO1 g0 g1 g2 g3 g4 g5 g6 g7;obtain ⟨g0,g1,g2,g3,g4,g5,g6,g7⟩:=HO2.out.2)
        |(have _h:=HO2;go_at_call 130;refine (H1.out _ (HO2.out.1)).mono ?_;rintro e y3 ⟨rfl,ok⟩;have HO3:Hid ((Below w.heap.size w y3)∧BxP y3 w.heap.size P.nm P.a P.b P.c (.slice a1 P.d.length c1) (.slice a2 P.p.length c2) (.slice a3 P.o.length c3)):=HK0.out _ _ HO2.out ok;clear ok HO2 g0 g1 g2 g3 g4 g5 g6 g7;obtain ⟨g0,g1,g2,g3,g4,g5,g6,g7⟩:=HO3.out.2))
       go_ret;exact ⟨aC HR.out.symm,HO3.out.1⟩
     · cases b2
       · skip
         have HR:Hid (DB=false):=by unfold Hid;rw [HD.out];simp
         have HK0:Hid (KeepP fun w1=>(Below w.heap.size w w1)∧BxP w1 w.heap.size P.nm P.a P.b P.c (.slice a1 P.d.length c1) (.slice a2 P.p.length c2) (.slice a3 P.o.length c3)):=(KeepP.and (aD w) (bZ _ _ _ _ _ _ _ _));have HO0:Hid ((Below w.heap.size w (w.alloc (.cells #[.string P.nm,.int .i64 P.a,.int .i64 P.b,.int .i64 P.c,.slice a1 P.d.length c1,.slice a2 P.p.length c2,.slice a3 P.o.length c3] 54)))∧BxP (w.alloc (.cells #[.string P.nm,.int .i64 P.a,.int .i64 P.b,.int .i64 P.c,.slice a1 P.d.length c1,.slice a2 P.p.length c2,.slice a3 P.o.length c3] 54)) w.heap.size P.nm P.a P.b P.c (.slice a1 P.d.length c1) (.slice a2 P.p.length c2) (.slice a3 P.o.length c3)):=⟨aF _ _,BxP.new rfl _ _ _ _ _ _ _⟩;obtain ⟨g0,g1,g2,g3,g4,g5,g6,g7⟩:=HO0.out.2
         go_enter Tryz.func83,Tryz.ntmps83
         go_wp2_with (first
          |(have _h:=HO0;go_at_call 82;refine (HN.out _ (HO0.out.1)).mono ?_;rintro e y1 ⟨rfl,ok⟩;have HO1:Hid ((Below w.heap.size w y1)∧BxP y1 w.heap.size P.nm P.a P.b P.c (.slice a1 P.d.length c1) (.slice a2 P.p.length c2) (.slice a3 P.o.length c3)):=HK0.out _ _ HO0.out ok;clear ok HO0 g0 g1 g2 g3 g4 g5 g6 g7;obtain ⟨g0,g1,g2,g3,g4,g5,g6,g7⟩:=HO1.out.2)
          |(have _h:=HO1;go_at_call 133;refine (HV.out _ (HO1.out.1)).mono ?_;rintro e y2 ⟨rfl,ok⟩;have HO2:Hid ((Below w.heap.size w y2)∧BxP y2 w.heap.size P.nm P.a P.b P.c (.slice a1 P.d.length c1) (.slice a2 P.p.length c2) (.slice a3 P.o.length c3)):=HK0.out _ _ HO1.out ok;clear ok HO1 g0 g1 g2 g3 g4 g5 g6 g7;obtain ⟨g0,g1,g2,g3,g4,g5,g6,g7⟩:=HO2.out.2)
          |(have _h:=HO2;go_at_call 130;refine (H1.out _ (HO2.out.1)).mono ?_;rintro e y3 ⟨rfl,ok⟩;have HO3:Hid ((Below w.heap.size w y3)∧BxP y3 w.heap.size P.nm P.a P.b P.c (.slice a1 P.d.length c1) (.slice a2 P.p.length c2) (.slice a3 P.o.length c3)):=HK0.out _ _ HO2.out ok;clear ok HO2 g0 g1 g2 g3 g4 g5 g6 g7;obtain ⟨g0,g1,g2,g3,g4,g5,g6,g7⟩:=HO3.out.2)
          |(have _h:=HO3;go_at_call 130;refine (H2.out _ (HO3.out.1)).mono ?_;rintro e y4 ⟨rfl,ok⟩;have HO4:Hid ((Below w.heap.size w y4)∧BxP y4 w.heap.size P.nm P.a P.b P.c (.slice a1 P.d.length c1) (.slice a2 P.p.length c2) (.slice a3 P.o.length c3)):=HK0.out _ _ HO3.out ok;clear ok HO3 g0 g1 g2 g3 g4 g5 g6 g7;obtain ⟨g0,g1,g2,g3,g4,g5,g6,g7⟩:=HO4.out.2))
         go_ret;exact ⟨aC HR.out.symm,HO4.out.1⟩
       · cases b3
         · skip
           have HR:Hid (DB=false):=by unfold Hid;rw [HD.out];simp
           have HK0:Hid (KeepP fun w1=>(Below w.heap.size w w1)∧BxP w1 w.heap.size P.nm P.a P.b P.c (.slice a1 P.d.length c1) (.slice a2 P.p.length c2) (.slice a3 P.o.length c3)):=(KeepP.and (aD w) (bZ _ _ _ _ _ _ _ _));have HO0:Hid ((Below w.heap.size w (w.alloc (.cells #[.string P.nm,.int .i64 P.a,.int .i64 P.b,.int .i64 P.c,.slice a1 P.d.length c1,.slice a2 P.p.length c2,.slice a3 P.o.length c3] 54)))∧BxP (w.alloc (.cells #[.string P.nm,.int .i64 P.a,.int .i64 P.b,.int .i64 P.c,.slice a1 P.d.length c1,.slice a2 P.p.length c2,.slice a3 P.o.length c3] 54)) w.heap.size P.nm P.a P.b P.c (.slice a1 P.d.length c1) (.slice a2 P.p.length c2) (.slice a3 P.o.length c3)):=⟨aF _ _,BxP.new rfl _ _ _ _ _ _ _⟩;obtain ⟨g0,g1,g2,g3,g4,g5,g6,g7⟩:=HO0.out.2
           go_enter Tryz.func83,Tryz.ntmps83
           go_wp2_with (first
            |(have _h:=HO0;go_at_call 82;refine (HN.out _ (HO0.out.1)).mono ?_;rintro e y1 ⟨rfl,ok⟩;have HO1:Hid ((Below w.heap.size w y1)∧BxP y1 w.heap.size P.nm P.a P.b P.c (.slice a1 P.d.length c1) (.slice a2 P.p.length c2) (.slice a3 P.o.length c3)):=HK0.out _ _ HO0.out ok;clear ok HO0 g0 g1 g2 g3 g4 g5 g6 g7;obtain ⟨g0,g1,g2,g3,g4,g5,g6,g7⟩:=HO1.out.2)
            |(have _h:=HO1;go_at_call 133;refine (HV.out _ (HO1.out.1)).mono ?_;rintro e y2 ⟨rfl,ok⟩;have HO2:Hid ((Below w.heap.size w y2)∧BxP y2 w.heap.size P.nm P.a P.b P.c (.slice a1 P.d.length c1) (.slice a2 P.p.length c2) (.slice a3 P.o.length c3)):=HK0.out _ _ HO1.out ok;clear ok HO1 g0 g1 g2 g3 g4 g5 g6 g7;obtain ⟨g0,g1,g2,g3,g4,g5,g6,g7⟩:=HO2.out.2)
            |(have _h:=HO2;go_at_call 130;refine (H1.out _ (HO2.out.1)).mono ?_;rintro e y3 ⟨rfl,ok⟩;have HO3:Hid ((Below w.heap.size w y3)∧BxP y3 w.heap.size P.nm P.a P.b P.c (.slice a1 P.d.length c1) (.slice a2 P.p.length c2) (.slice a3 P.o.length c3)):=HK0.out _ _ HO2.out ok;clear ok HO2 g0 g1 g2 g3 g4 g5 g6 g7;obtain ⟨g0,g1,g2,g3,g4,g5,g6,g7⟩:=HO3.out.2)
            |(have _h:=HO3;go_at_call 130;refine (H2.out _ (HO3.out.1)).mono ?_;rintro e y4 ⟨rfl,ok⟩;have HO4:Hid ((Below w.heap.size w y4)∧BxP y4 w.heap.size P.nm P.a P.b P.c (.slice a1 P.d.length c1) (.slice a2 P.p.length c2) (.slice a3 P.o.length c3)):=HK0.out _ _ HO3.out ok;clear ok HO3 g0 g1 g2 g3 g4 g5 g6 g7;obtain ⟨g0,g1,g2,g3,g4,g5,g6,g7⟩:=HO4.out.2)
            |(have _h:=HO4;go_at_call 130;refine (H3.out _ (HO4.out.1)).mono ?_;rintro e y5 ⟨rfl,ok⟩;have HO5:Hid ((Below w.heap.size w y5)∧BxP y5 w.heap.size P.nm P.a P.b P.c (.slice a1 P.d.length c1) (.slice a2 P.p.length c2) (.slice a3 P.o.length c3)):=HK0.out _ _ HO4.out ok;clear ok HO4 g0 g1 g2 g3 g4 g5 g6 g7;obtain ⟨g0,g1,g2,g3,g4,g5,g6,g7⟩:=HO5.out.2))
           go_ret;exact ⟨aC HR.out.symm,HO5.out.1⟩
         · have B12:=aA (A12.out (by first|rfl|trivial) (by first|rfl|trivial))
           have B13:=aA (A13.out (by first|rfl|trivial) (by first|rfl|trivial));have B23:=aA (A23.out (by first|rfl|trivial) (by first|rfl|trivial));have BT:=aA (HT.out (by first|rfl|trivial) (by first|rfl|trivial) (by first|rfl|trivial) (by first|rfl|trivial));clear A12 A13 A23 HT;cases p12
           · skip
             have HR:Hid (DB=false):=by unfold Hid;rw [HD.out];simp
             have HK0:Hid (KeepP fun w1=>(Below w.heap.size w w1)∧BxP w1 w.heap.size P.nm P.a P.b P.c (.slice a1 P.d.length c1) (.slice a2 P.p.length c2) (.slice a3 P.o.length c3)):=(KeepP.and (aD w) (bZ _ _ _ _ _ _ _ _));have HO0:Hid ((Below w.heap.size w (w.alloc (.cells #[.string P.nm,.int .i64 P.a,.int .i64 P.b,.int .i64 P.c,.slice a1 P.d.length c1,.slice a2 P.p.length c2,.slice a3 P.o.length c3] 54)))∧BxP (w.alloc (.cells #[.string P.nm,.int .i64 P.a,.int .i64 P.b,.int .i64 P.c,.slice a1 P.d.length c1,.slice a2 P.p.length c2,.slice a3 P.o.length c3] 54)) w.heap.size P.nm P.a P.b P.c (.slice a1 P.d.length c1) (.slice a2 P.p.length c2) (.slice a3 P.o.length c3)):=⟨aF _ _,BxP.new rfl _ _ _ _ _ _ _⟩;obtain ⟨g0,g1,g2,g3,g4,g5,g6,g7⟩:=HO0.out.2
             go_enter Tryz.func83,Tryz.ntmps83
             go_wp2_with (first
              |(have _h:=HO0;go_at_call 82;refine (HN.out _ (HO0.out.1)).mono ?_;rintro e y1 ⟨rfl,ok⟩;have HO1:Hid ((Below w.heap.size w y1)∧BxP y1 w.heap.size P.nm P.a P.b P.c (.slice a1 P.d.length c1) (.slice a2 P.p.length c2) (.slice a3 P.o.length c3)):=HK0.out _ _ HO0.out ok;clear ok HO0 g0 g1 g2 g3 g4 g5 g6 g7;obtain ⟨g0,g1,g2,g3,g4,g5,g6,g7⟩:=HO1.out.2)
              |(have _h:=HO1;go_at_call 133;refine (HV.out _ (HO1.out.1)).mono ?_;rintro e y2 ⟨rfl,ok⟩;have HO2:Hid ((Below w.heap.size w y2)∧BxP y2 w.heap.size P.nm P.a P.b P.c (.slice a1 P.d.length c1) (.slice a2 P.p.length c2) (.slice a3 P.o.length c3)):=HK0.out _ _ HO1.out ok;clear ok HO1 g0 g1 g2 g3 g4 g5 g6 g7;obtain ⟨g0,g1,g2,g3,g4,g5,g6,g7⟩:=HO2.out.2)
              |(have _h:=HO2;go_at_call 130;refine (H1.out _ (HO2.out.1)).mono ?_;rintro e y3 ⟨rfl,ok⟩;have HO3:Hid ((Below w.heap.size w y3)∧BxP y3 w.heap.size P.nm P.a P.b P.c (.slice a1 P.d.length c1) (.slice a2 P.p.length c2) (.slice a3 P.o.length c3)):=HK0.out _ _ HO2.out ok;clear ok HO2 g0 g1 g2 g3 g4 g5 g6 g7;obtain ⟨g0,g1,g2,g3,g4,g5,g6,g7⟩:=HO3.out.2)
              |(have _h:=HO3;go_at_call 130;refine (H2.out _ (HO3.out.1)).mono ?_;rintro e y4 ⟨rfl,ok⟩;have HO4:Hid ((Below w.heap.size w y4)∧BxP y4 w.heap.size P.nm P.a P.b P.c (.slice a1 P.d.length c1) (.slice a2 P.p.length c2) (.slice a3 P.o.length c3)):=HK0.out _ _ HO3.out ok;clear ok HO3 g0 g1 g2 g3 g4 g5 g6 g7;obtain ⟨g0,g1,g2,g3,g4,g5,g6,g7⟩:=HO4.out.2)
              |(have _h:=HO4;go_at_call 130;refine (H3.out _ (HO4.out.1)).mono ?_;rintro e y5 ⟨rfl,ok⟩;have HO5:Hid ((Below w.heap.size w y5)∧BxP y5 w.heap.size P.nm P.a P.b P.c (.slice a1 P.d.length c1) (.slice a2 P.p.length c2) (.slice a3 P.o.length c3)):=HK0.out _ _ HO4.out ok;clear ok HO4 g0 g1 g2 g3 g4 g5 g6 g7;obtain ⟨g0,g1,g2,g3,g4,g5,g6,g7⟩:=HO5.out.2)
              |(have _h:=HO5;go_at_call 131;refine (B12.out _ (HO5.out.1)).mono ?_;rintro e y6 ⟨rfl,ok⟩;have HO6:Hid ((Below w.heap.size w y6)∧BxP y6 w.heap.size P.nm P.a P.b P.c (.slice a1 P.d.length c1) (.slice a2 P.p.length c2) (.slice a3 P.o.length c3)):=HK0.out _ _ HO5.out ok;clear ok HO5 g0 g1 g2 g3 g4 g5 g6 g7;obtain ⟨g0,g1,g2,g3,g4,g5,g6,g7⟩:=HO6.out.2))
             go_ret;exact ⟨aC HR.out.symm,HO6.out.1⟩
           · cases p13
             · skip
               have HR:Hid (DB=false):=by unfold Hid;rw [HD.out];simp
               have HK0:Hid (KeepP fun w1=>(Below w.heap.size w w1)∧BxP w1 w.heap.size P.nm P.a P.b P.c (.slice a1 P.d.length c1) (.slice a2 P.p.length c2) (.slice a3 P.o.length c3)):=(KeepP.and (aD w) (bZ _ _ _ _ _ _ _ _));have HO0:Hid ((Below w.heap.size w (w.alloc (.cells #[.string P.nm,.int .i64 P.a,.int .i64 P.b,.int .i64 P.c,.slice a1 P.d.length c1,.slice a2 P.p.length c2,.slice a3 P.o.length c3] 54)))∧BxP (w.alloc (.cells #[.string P.nm,.int .i64 P.a,.int .i64 P.b,.int .i64 P.c,.slice a1 P.d.length c1,.slice a2 P.p.length c2,.slice a3 P.o.length c3] 54)) w.heap.size P.nm P.a P.b P.c (.slice a1 P.d.length c1) (.slice a2 P.p.length c2) (.slice a3 P.o.length c3)):=⟨aF _ _,BxP.new rfl _ _ _ _ _ _ _⟩;obtain ⟨g0,g1,g2,g3,g4,g5,g6,g7⟩:=HO0.out.2
               go_enter Tryz.func83,Tryz.ntmps83
               go_wp2_with (first
                |(have _h:=HO0;go_at_call 82;refine (HN.out _ (HO0.out.1)).mono ?_;rintro e y1 ⟨rfl,ok⟩;have HO1:Hid ((Below w.heap.size w y1)∧BxP y1 w.heap.size P.nm P.a P.b P.c (.slice a1 P.d.length c1) (.slice a2 P.p.length c2) (.slice a3 P.o.length c3)):=HK0.out _ _ HO0.out ok;clear ok HO0 g0 g1 g2 g3 g4 g5 g6 g7;obtain ⟨g0,g1,g2,g3,g4,g5,g6,g7⟩:=HO1.out.2)
                |(have _h:=HO1;go_at_call 133;refine (HV.out _ (HO1.out.1)).mono ?_;rintro e y2 ⟨rfl,ok⟩;have HO2:Hid ((Below w.heap.size w y2)∧BxP y2 w.heap.size P.nm P.a P.b P.c (.slice a1 P.d.length c1) (.slice a2 P.p.length c2) (.slice a3 P.o.length c3)):=HK0.out _ _ HO1.out ok;clear ok HO1 g0 g1 g2 g3 g4 g5 g6 g7;obtain ⟨g0,g1,g2,g3,g4,g5,g6,g7⟩:=HO2.out.2)
                |(have _h:=HO2;go_at_call 130;refine (H1.out _ (HO2.out.1)).mono ?_;rintro e y3 ⟨rfl,ok⟩;have HO3:Hid ((Below w.heap.size w y3)∧BxP y3 w.heap.size P.nm P.a P.b P.c (.slice a1 P.d.length c1) (.slice a2 P.p.length c2) (.slice a3 P.o.length c3)):=HK0.out _ _ HO2.out ok;clear ok HO2 g0 g1 g2 g3 g4 g5 g6 g7;obtain ⟨g0,g1,g2,g3,g4,g5,g6,g7⟩:=HO3.out.2)
                |(have _h:=HO3;go_at_call 130;refine (H2.out _ (HO3.out.1)).mono ?_;rintro e y4 ⟨rfl,ok⟩;have HO4:Hid ((Below w.heap.size w y4)∧BxP y4 w.heap.size P.nm P.a P.b P.c (.slice a1 P.d.length c1) (.slice a2 P.p.length c2) (.slice a3 P.o.length c3)):=HK0.out _ _ HO3.out ok;clear ok HO3 g0 g1 g2 g3 g4 g5 g6 g7;obtain ⟨g0,g1,g2,g3,g4,g5,g6,g7⟩:=HO4.out.2)
                |(have _h:=HO4;go_at_call 130;refine (H3.out _ (HO4.out.1)).mono ?_;rintro e y5 ⟨rfl,ok⟩;have HO5:Hid ((Below w.heap.size w y5)∧BxP y5 w.heap.size P.nm P.a P.b P.c (.slice a1 P.d.length c1) (.slice a2 P.p.length c2) (.slice a3 P.o.length c3)):=HK0.out _ _ HO4.out ok;clear ok HO4 g0 g1 g2 g3 g4 g5 g6 g7;obtain ⟨g0,g1,g2,g3,g4,g5,g6,g7⟩:=HO5.out.2)
                |(have _h:=HO5;go_at_call 131;refine (B12.out _ (HO5.out.1)).mono ?_;rintro e y6 ⟨rfl,ok⟩;have HO6:Hid ((Below w.heap.size w y6)∧BxP y6 w.heap.size P.nm P.a P.b P.c (.slice a1 P.d.length c1) (.slice a2 P.p.length c2) (.slice a3 P.o.length c3)):=HK0.out _ _ HO5.out ok;clear ok HO5 g0 g1 g2 g3 g4 g5 g6 g7;obtain ⟨g0,g1,g2,g3,g4,g5,g6,g7⟩:=HO6.out.2)
                |(have _h:=HO6;go_at_call 131;refine (B13.out _ (HO6.out.1)).mono ?_;rintro e y7 ⟨rfl,ok⟩;have HO7:Hid ((Below w.heap.size w y7)∧BxP y7 w.heap.size P.nm P.a P.b P.c (.slice a1 P.d.length c1) (.slice a2 P.p.length c2) (.slice a3 P.o.length c3)):=HK0.out _ _ HO6.out ok;clear ok HO6 g0 g1 g2 g3 g4 g5 g6 g7;obtain ⟨g0,g1,g2,g3,g4,g5,g6,g7⟩:=HO7.out.2))
               go_ret;exact ⟨aC HR.out.symm,HO7.out.1⟩
             · cases p23
               · skip
                 have HR:Hid (DB=false):=by unfold Hid;rw [HD.out];simp
                 have HK0:Hid (KeepP fun w1=>(Below w.heap.size w w1)∧BxP w1 w.heap.size P.nm P.a P.b P.c (.slice a1 P.d.length c1) (.slice a2 P.p.length c2) (.slice a3 P.o.length c3)):=(KeepP.and (aD w) (bZ _ _ _ _ _ _ _ _));have HO0:Hid ((Below w.heap.size w (w.alloc (.cells #[.string P.nm,.int .i64 P.a,.int .i64 P.b,.int .i64 P.c,.slice a1 P.d.length c1,.slice a2 P.p.length c2,.slice a3 P.o.length c3] 54)))∧BxP (w.alloc (.cells #[.string P.nm,.int .i64 P.a,.int .i64 P.b,.int .i64 P.c,.slice a1 P.d.length c1,.slice a2 P.p.length c2,.slice a3 P.o.length c3] 54)) w.heap.size P.nm P.a P.b P.c (.slice a1 P.d.length c1) (.slice a2 P.p.length c2) (.slice a3 P.o.length c3)):=⟨aF _ _,BxP.new rfl _ _ _ _ _ _ _⟩;obtain ⟨g0,g1,g2,g3,g4,g5,g6,g7⟩:=HO0.out.2
                 go_enter Tryz.func83,Tryz.ntmps83
                 go_wp2_with (first
                  |(have _h:=HO0;go_at_call 82;refine (HN.out _ (HO0.out.1)).mono ?_;rintro e y1 ⟨rfl,ok⟩;have HO1:Hid ((Below w.heap.size w y1)∧BxP y1 w.heap.size P.nm P.a P.b P.c (.slice a1 P.d.length c1) (.slice a2 P.p.length c2) (.slice a3 P.o.length c3)):=HK0.out _ _ HO0.out ok;clear ok HO0 g0 g1 g2 g3 g4 g5 g6 g7;obtain ⟨g0,g1,g2,g3,g4,g5,g6,g7⟩:=HO1.out.2)
                  |(have _h:=HO1;go_at_call 133;refine (HV.out _ (HO1.out.1)).mono ?_;rintro e y2 ⟨rfl,ok⟩;have HO2:Hid ((Below w.heap.size w y2)∧BxP y2 w.heap.size P.nm P.a P.b P.c (.slice a1 P.d.length c1) (.slice a2 P.p.length c2) (.slice a3 P.o.length c3)):=HK0.out _ _ HO1.out ok;clear ok HO1 g0 g1 g2 g3 g4 g5 g6 g7;obtain ⟨g0,g1,g2,g3,g4,g5,g6,g7⟩:=HO2.out.2)
                  |(have _h:=HO2;go_at_call 130;refine (H1.out _ (HO2.out.1)).mono ?_;rintro e y3 ⟨rfl,ok⟩;have HO3:Hid ((Below w.heap.size w y3)∧BxP y3 w.heap.size P.nm P.a P.b P.c (.slice a1 P.d.length c1) (.slice a2 P.p.length c2) (.slice a3 P.o.length c3)):=HK0.out _ _ HO2.out ok;clear ok HO2 g0 g1 g2 g3 g4 g5 g6 g7;obtain ⟨g0,g1,g2,g3,g4,g5,g6,g7⟩:=HO3.out.2)
                  |(have _h:=HO3;go_at_call 130;refine (H2.out _ (HO3.out.1)).mono ?_;rintro e y4 ⟨rfl,ok⟩;have HO4:Hid ((Below w.heap.size w y4)∧BxP y4 w.heap.size P.nm P.a P.b P.c (.slice a1 P.d.length c1) (.slice a2 P.p.length c2) (.slice a3 P.o.length c3)):=HK0.out _ _ HO3.out ok;clear ok HO3 g0 g1 g2 g3 g4 g5 g6 g7;obtain ⟨g0,g1,g2,g3,g4,g5,g6,g7⟩:=HO4.out.2)
                  |(have _h:=HO4;go_at_call 130;refine (H3.out _ (HO4.out.1)).mono ?_;rintro e y5 ⟨rfl,ok⟩;have HO5:Hid ((Below w.heap.size w y5)∧BxP y5 w.heap.size P.nm P.a P.b P.c (.slice a1 P.d.length c1) (.slice a2 P.p.length c2) (.slice a3 P.o.length c3)):=HK0.out _ _ HO4.out ok;clear ok HO4 g0 g1 g2 g3 g4 g5 g6 g7;obtain ⟨g0,g1,g2,g3,g4,g5,g6,g7⟩:=HO5.out.2)
                  |(have _h:=HO5;go_at_call 131;refine (B12.out _ (HO5.out.1)).mono ?_;rintro e y6 ⟨rfl,ok⟩;have HO6:Hid ((Below w.heap.size w y6)∧BxP y6 w.heap.size P.nm P.a P.b P.c (.slice a1 P.d.length c1) (.slice a2 P.p.length c2) (.slice a3 P.o.length c3)):=HK0.out _ _ HO5.out ok;clear ok HO5 g0 g1 g2 g3 g4 g5 g6 g7;obtain ⟨g0,g1,g2,g3,g4,g5,g6,g7⟩:=HO6.out.2)
                  |(have _h:=HO6;go_at_call 131;refine (B13.out _ (HO6.out.1)).mono ?_;rintro e y7 ⟨rfl,ok⟩;have HO7:Hid ((Below w.heap.size w y7)∧BxP y7 w.heap.size P.nm P.a P.b P.c (.slice a1 P.d.length c1) (.slice a2 P.p.length c2) (.slice a3 P.o.length c3)):=HK0.out _ _ HO6.out ok;clear ok HO6 g0 g1 g2 g3 g4 g5 g6 g7;obtain ⟨g0,g1,g2,g3,g4,g5,g6,g7⟩:=HO7.out.2)
                  |(have _h:=HO7;go_at_call 131;refine (B23.out _ (HO7.out.1)).mono ?_;rintro e y8 ⟨rfl,ok⟩;have HO8:Hid ((Below w.heap.size w y8)∧BxP y8 w.heap.size P.nm P.a P.b P.c (.slice a1 P.d.length c1) (.slice a2 P.p.length c2) (.slice a3 P.o.length c3)):=HK0.out _ _ HO7.out ok;clear ok HO7 g0 g1 g2 g3 g4 g5 g6 g7;obtain ⟨g0,g1,g2,g3,g4,g5,g6,g7⟩:=HO8.out.2))
                 go_ret;exact ⟨aC HR.out.symm,HO8.out.1⟩
               · by_cases hlen:tl≤4096
                 · have hz1:decide ((TX.size:Int)≤4096)=true:=decide_eq_true (by have:=HZ.out;omega)
                   have HR:Hid (DB=true):=by unfold Hid;rw [HD.out];simp [hlen]
                   have hz2:(TX.size:Int)≤4096:=by have:=HZ.out;omega
                   have _:=hlen;have HK0:Hid (KeepP fun w1=>(Below w.heap.size w w1)∧BxP w1 w.heap.size P.nm P.a P.b P.c (.slice a1 P.d.length c1) (.slice a2 P.p.length c2) (.slice a3 P.o.length c3)):=(KeepP.and (aD w) (bZ _ _ _ _ _ _ _ _));have HO0:Hid ((Below w.heap.size w (w.alloc (.cells #[.string P.nm,.int .i64 P.a,.int .i64 P.b,.int .i64 P.c,.slice a1 P.d.length c1,.slice a2 P.p.length c2,.slice a3 P.o.length c3] 54)))∧BxP (w.alloc (.cells #[.string P.nm,.int .i64 P.a,.int .i64 P.b,.int .i64 P.c,.slice a1 P.d.length c1,.slice a2 P.p.length c2,.slice a3 P.o.length c3] 54)) w.heap.size P.nm P.a P.b P.c (.slice a1 P.d.length c1) (.slice a2 P.p.length c2) (.slice a3 P.o.length c3)):=⟨aF _ _,BxP.new rfl _ _ _ _ _ _ _⟩;obtain ⟨g0,g1,g2,g3,g4,g5,g6,g7⟩:=HO0.out.2
                   go_enter Tryz.func83,Tryz.ntmps83
                   go_wp2_with (first
                    |(have _h:=HO0;go_at_call 82;refine (HN.out _ (HO0.out.1)).mono ?_;rintro e y1 ⟨rfl,ok⟩;have HO1:Hid ((Below w.heap.size w y1)∧BxP y1 w.heap.size P.nm P.a P.b P.c (.slice a1 P.d.length c1) (.slice a2 P.p.length c2) (.slice a3 P.o.length c3)):=HK0.out _ _ HO0.out ok;clear ok HO0 g0 g1 g2 g3 g4 g5 g6 g7;obtain ⟨g0,g1,g2,g3,g4,g5,g6,g7⟩:=HO1.out.2)
                    |(have _h:=HO1;go_at_call 133;refine (HV.out _ (HO1.out.1)).mono ?_;rintro e y2 ⟨rfl,ok⟩;have HO2:Hid ((Below w.heap.size w y2)∧BxP y2 w.heap.size P.nm P.a P.b P.c (.slice a1 P.d.length c1) (.slice a2 P.p.length c2) (.slice a3 P.o.length c3)):=HK0.out _ _ HO1.out ok;clear ok HO1 g0 g1 g2 g3 g4 g5 g6 g7;obtain ⟨g0,g1,g2,g3,g4,g5,g6,g7⟩:=HO2.out.2)
                    |(have _h:=HO2;go_at_call 130;refine (H1.out _ (HO2.out.1)).mono ?_;rintro e y3 ⟨rfl,ok⟩;have HO3:Hid ((Below w.heap.size w y3)∧BxP y3 w.heap.size P.nm P.a P.b P.c (.slice a1 P.d.length c1) (.slice a2 P.p.length c2) (.slice a3 P.o.length c3)):=HK0.out _ _ HO2.out ok;clear ok HO2 g0 g1 g2 g3 g4 g5 g6 g7;obtain ⟨g0,g1,g2,g3,g4,g5,g6,g7⟩:=HO3.out.2)
                    |(have _h:=HO3;go_at_call 130;refine (H2.out _ (HO3.out.1)).mono ?_;rintro e y4 ⟨rfl,ok⟩;have HO4:Hid ((Below w.heap.size w y4)∧BxP y4 w.heap.size P.nm P.a P.b P.c (.slice a1 P.d.length c1) (.slice a2 P.p.length c2) (.slice a3 P.o.length c3)):=HK0.out _ _ HO3.out ok;clear ok HO3 g0 g1 g2 g3 g4 g5 g6 g7;obtain ⟨g0,g1,g2,g3,g4,g5,g6,g7⟩:=HO4.out.2)
                    |(have _h:=HO4;go_at_call 130;refine (H3.out _ (HO4.out.1)).mono ?_;rintro e y5 ⟨rfl,ok⟩;have HO5:Hid ((Below w.heap.size w y5)∧BxP y5 w.heap.size P.nm P.a P.b P.c (.slice a1 P.d.length c1) (.slice a2 P.p.length c2) (.slice a3 P.o.length c3)):=HK0.out _ _ HO4.out ok;clear ok HO4 g0 g1 g2 g3 g4 g5 g6 g7;obtain ⟨g0,g1,g2,g3,g4,g5,g6,g7⟩:=HO5.out.2)
                    |(have _h:=HO5;go_at_call 131;refine (B12.out _ (HO5.out.1)).mono ?_;rintro e y6 ⟨rfl,ok⟩;have HO6:Hid ((Below w.heap.size w y6)∧BxP y6 w.heap.size P.nm P.a P.b P.c (.slice a1 P.d.length c1) (.slice a2 P.p.length c2) (.slice a3 P.o.length c3)):=HK0.out _ _ HO5.out ok;clear ok HO5 g0 g1 g2 g3 g4 g5 g6 g7;obtain ⟨g0,g1,g2,g3,g4,g5,g6,g7⟩:=HO6.out.2)
                    |(have _h:=HO6;go_at_call 131;refine (B13.out _ (HO6.out.1)).mono ?_;rintro e y7 ⟨rfl,ok⟩;have HO7:Hid ((Below w.heap.size w y7)∧BxP y7 w.heap.size P.nm P.a P.b P.c (.slice a1 P.d.length c1) (.slice a2 P.p.length c2) (.slice a3 P.o.length c3)):=HK0.out _ _ HO6.out ok;clear ok HO6 g0 g1 g2 g3 g4 g5 g6 g7;obtain ⟨g0,g1,g2,g3,g4,g5,g6,g7⟩:=HO7.out.2)
                    |(have _h:=HO7;go_at_call 131;refine (B23.out _ (HO7.out.1)).mono ?_;rintro e y8 ⟨rfl,ok⟩;have HO8:Hid ((Below w.heap.size w y8)∧BxP y8 w.heap.size P.nm P.a P.b P.c (.slice a1 P.d.length c1) (.slice a2 P.p.length c2) (.slice a3 P.o.length c3)):=HK0.out _ _ HO7.out ok;clear ok HO7 g0 g1 g2 g3 g4 g5 g6 g7;obtain ⟨g0,g1,g2,g3,g4,g5,g6,g7⟩:=HO8.out.2)
                    |(have _h:=HO8;go_at_call 84;refine (BT.out _ (HO8.out.1)).mono ?_;rintro e y9 ⟨rfl,ok⟩;have HO9:Hid ((Below w.heap.size w y9)∧BxP y9 w.heap.size P.nm P.a P.b P.c (.slice a1 P.d.length c1) (.slice a2 P.p.length c2) (.slice a3 P.o.length c3)):=HK0.out _ _ HO8.out ok;clear ok HO8 g0 g1 g2 g3 g4 g5 g6 g7;obtain ⟨g0,g1,g2,g3,g4,g5,g6,g7⟩:=HO9.out.2))
                   go_ret;exact ⟨aC HR.out.symm,HO9.out.1⟩
                 · have hz1:decide ((TX.size:Int)≤4096)=false:=decide_eq_false (by have:=HZ.out;omega)
                   have HR:Hid (DB=false):=by unfold Hid;rw [HD.out];simp [hlen]
                   have _:=hlen;have HK0:Hid (KeepP fun w1=>(Below w.heap.size w w1)∧BxP w1 w.heap.size P.nm P.a P.b P.c (.slice a1 P.d.length c1) (.slice a2 P.p.length c2) (.slice a3 P.o.length c3)):=(KeepP.and (aD w) (bZ _ _ _ _ _ _ _ _));have HO0:Hid ((Below w.heap.size w (w.alloc (.cells #[.string P.nm,.int .i64 P.a,.int .i64 P.b,.int .i64 P.c,.slice a1 P.d.length c1,.slice a2 P.p.length c2,.slice a3 P.o.length c3] 54)))∧BxP (w.alloc (.cells #[.string P.nm,.int .i64 P.a,.int .i64 P.b,.int .i64 P.c,.slice a1 P.d.length c1,.slice a2 P.p.length c2,.slice a3 P.o.length c3] 54)) w.heap.size P.nm P.a P.b P.c (.slice a1 P.d.length c1) (.slice a2 P.p.length c2) (.slice a3 P.o.length c3)):=⟨aF _ _,BxP.new rfl _ _ _ _ _ _ _⟩;obtain ⟨g0,g1,g2,g3,g4,g5,g6,g7⟩:=HO0.out.2
                   go_enter Tryz.func83,Tryz.ntmps83
                   go_wp2_with (first
                    |(have _h:=HO0;go_at_call 82;refine (HN.out _ (HO0.out.1)).mono ?_;rintro e y1 ⟨rfl,ok⟩;have HO1:Hid ((Below w.heap.size w y1)∧BxP y1 w.heap.size P.nm P.a P.b P.c (.slice a1 P.d.length c1) (.slice a2 P.p.length c2) (.slice a3 P.o.length c3)):=HK0.out _ _ HO0.out ok;clear ok HO0 g0 g1 g2 g3 g4 g5 g6 g7;obtain ⟨g0,g1,g2,g3,g4,g5,g6,g7⟩:=HO1.out.2)
                    |(have _h:=HO1;go_at_call 133;refine (HV.out _ (HO1.out.1)).mono ?_;rintro e y2 ⟨rfl,ok⟩;have HO2:Hid ((Below w.heap.size w y2)∧BxP y2 w.heap.size P.nm P.a P.b P.c (.slice a1 P.d.length c1) (.slice a2 P.p.length c2) (.slice a3 P.o.length c3)):=HK0.out _ _ HO1.out ok;clear ok HO1 g0 g1 g2 g3 g4 g5 g6 g7;obtain ⟨g0,g1,g2,g3,g4,g5,g6,g7⟩:=HO2.out.2)
                    |(have _h:=HO2;go_at_call 130;refine (H1.out _ (HO2.out.1)).mono ?_;rintro e y3 ⟨rfl,ok⟩;have HO3:Hid ((Below w.heap.size w y3)∧BxP y3 w.heap.size P.nm P.a P.b P.c (.slice a1 P.d.length c1) (.slice a2 P.p.length c2) (.slice a3 P.o.length c3)):=HK0.out _ _ HO2.out ok;clear ok HO2 g0 g1 g2 g3 g4 g5 g6 g7;obtain ⟨g0,g1,g2,g3,g4,g5,g6,g7⟩:=HO3.out.2)
                    |(have _h:=HO3;go_at_call 130;refine (H2.out _ (HO3.out.1)).mono ?_;rintro e y4 ⟨rfl,ok⟩;have HO4:Hid ((Below w.heap.size w y4)∧BxP y4 w.heap.size P.nm P.a P.b P.c (.slice a1 P.d.length c1) (.slice a2 P.p.length c2) (.slice a3 P.o.length c3)):=HK0.out _ _ HO3.out ok;clear ok HO3 g0 g1 g2 g3 g4 g5 g6 g7;obtain ⟨g0,g1,g2,g3,g4,g5,g6,g7⟩:=HO4.out.2)
                    |(have _h:=HO4;go_at_call 130;refine (H3.out _ (HO4.out.1)).mono ?_;rintro e y5 ⟨rfl,ok⟩;have HO5:Hid ((Below w.heap.size w y5)∧BxP y5 w.heap.size P.nm P.a P.b P.c (.slice a1 P.d.length c1) (.slice a2 P.p.length c2) (.slice a3 P.o.length c3)):=HK0.out _ _ HO4.out ok;clear ok HO4 g0 g1 g2 g3 g4 g5 g6 g7;obtain ⟨g0,g1,g2,g3,g4,g5,g6,g7⟩:=HO5.out.2)
                    |(have _h:=HO5;go_at_call 131;refine (B12.out _ (HO5.out.1)).mono ?_;rintro e y6 ⟨rfl,ok⟩;have HO6:Hid ((Below w.heap.size w y6)∧BxP y6 w.heap.size P.nm P.a P.b P.c (.slice a1 P.d.length c1) (.slice a2 P.p.length c2) (.slice a3 P.o.length c3)):=HK0.out _ _ HO5.out ok;clear ok HO5 g0 g1 g2 g3 g4 g5 g6 g7;obtain ⟨g0,g1,g2,g3,g4,g5,g6,g7⟩:=HO6.out.2)
                    |(have _h:=HO6;go_at_call 131;refine (B13.out _ (HO6.out.1)).mono ?_;rintro e y7 ⟨rfl,ok⟩;have HO7:Hid ((Below w.heap.size w y7)∧BxP y7 w.heap.size P.nm P.a P.b P.c (.slice a1 P.d.length c1) (.slice a2 P.p.length c2) (.slice a3 P.o.length c3)):=HK0.out _ _ HO6.out ok;clear ok HO6 g0 g1 g2 g3 g4 g5 g6 g7;obtain ⟨g0,g1,g2,g3,g4,g5,g6,g7⟩:=HO7.out.2)
                    |(have _h:=HO7;go_at_call 131;refine (B23.out _ (HO7.out.1)).mono ?_;rintro e y8 ⟨rfl,ok⟩;have HO8:Hid ((Below w.heap.size w y8)∧BxP y8 w.heap.size P.nm P.a P.b P.c (.slice a1 P.d.length c1) (.slice a2 P.p.length c2) (.slice a3 P.o.length c3)):=HK0.out _ _ HO7.out ok;clear ok HO7 g0 g1 g2 g3 g4 g5 g6 g7;obtain ⟨g0,g1,g2,g3,g4,g5,g6,g7⟩:=HO8.out.2)
                    |(have _h:=HO8;go_at_call 84;refine (BT.out _ (HO8.out.1)).mono ?_;rintro e y9 ⟨rfl,ok⟩;have HO9:Hid ((Below w.heap.size w y9)∧BxP y9 w.heap.size P.nm P.a P.b P.c (.slice a1 P.d.length c1) (.slice a2 P.p.length c2) (.slice a3 P.o.length c3)):=HK0.out _ _ HO8.out ok;clear ok HO8 g0 g1 g2 g3 g4 g5 g6 g7;obtain ⟨g0,g1,g2,g3,g4,g5,g6,g7⟩:=HO9.out.2))
                   go_ret;exact ⟨aC HR.out.symm,HO9.out.1⟩
theorem MY:∀ l:List UInt8,Op.bytesLess l l=false
 |[]=>rfl
 |a::l=>by
  show (decide (a<a)||(a==a&&Op.bytesLess l l))=false;rw [MY l]
  simp
theorem xX:∀ {a b c:List UInt8},Op.bytesLess a b=true→Op.bytesLess b c=true→Op.bytesLess a c=true
 |_,[],_,h,_=>by cases ‹List UInt8› <;>simp [Op.bytesLess] at h
 |_,_::_,[],_,h=>by simp [Op.bytesLess] at h
 |[],_::_,_::_,_,_=>rfl
 |x::a,y::b,z::c,h1,h2=>by
  have e1:(decide (x<y)||(x==y&&Op.bytesLess a b))=true:=h1;have e2:(decide (y<z)||(y==z&&Op.bytesLess b c))=true:=h2;show (decide (x<z)||(x==z&&Op.bytesLess a c))=true;simp only [Bool.or_eq_true,decide_eq_true_eq,Bool.and_eq_true,beq_iff_eq] at e1 e2 ⊢
  rcases e1 with h|⟨rfl,h⟩
  · rcases e2 with k|⟨rfl,_⟩
    · exact Or.inl (UInt8.lt_trans h k)
    · exact Or.inl h
  · rcases e2 with k|⟨rfl,k⟩
    · exact Or.inl k
    · exact Or.inr ⟨rfl,xX h k⟩
theorem FI:∀ {L:List Dp} {p:ByteArray},cK (some p) L=true→∀ d ∈ L,ltS p d.nm=true
 |e::M,p,h,d,hd=>by
  rw [cK,Bool.and_eq_true,Bool.and_eq_true] at h
  have h1:ltS p e.nm=true:=by
   have:=h.1.1
   unfold cF at this;rw [Bool.and_eq_true] at this;exact this.2
  rcases List.mem_cons.1 hd with rfl|hd
  · exact h1
  · exact xX h1 (FI h.2 d hd)
theorem jF:∀ {L:List Dp} {q:Option ByteArray},cK q L=true→(L.map Dp.nm).Nodup
 |[],_,_=>List.nodup_nil
 |e::M,q,h=>by
  rw [cK,Bool.and_eq_true,Bool.and_eq_true] at h;rw [List.map_cons,List.nodup_cons];refine ⟨fun hm=> ?_,jF h.2⟩;obtain ⟨d,hd,he⟩:=List.mem_map.1 hm
  have:=FI h.2 d hd
  rw [he] at this;unfold ltS at this;rw [MY] at this;cases this
theorem nQ {A B:List Dp}:bM A B=true↔∀ a ∈ A.map Dp.nm,∀ b ∈ B.map Dp.nm,a≠b:=by
 unfold bM;rw [List.all_eq_true]
 constructor
 · intro h a ha b hb
   obtain ⟨d,hd,rfl⟩:=List.mem_map.1 ha;obtain ⟨e,he,rfl⟩:=List.mem_map.1 hb
   have:=List.all_eq_true.1 (h d hd) e he
   intro hq;rw [hq] at this
   simp at this
 · intro h d hd
   refine List.all_eq_true.2 fun e he=> ?_
   have:=h _ (List.mem_map.2 ⟨d,hd,rfl⟩) _ (List.mem_map.2 ⟨e,he,rfl⟩)
   rw [Bool.not_eq_true',beq_eq_false_iff_ne];exact fun hq=>this (bB hq)
theorem qS {A B C:List Dp} (ha:cK none A=true) (hb:cK none B=true) (hc:cK none C=true):fJ [A,B,C]=(bM A B&&(bM A C&&bM B C)):=by
 have e:fR [A,B,C]=A.map Dp.nm++(B.map Dp.nm++C.map Dp.nm):=by unfold fR;simp
 rw [Bool.eq_iff_iff,Bool.and_eq_true,Bool.and_eq_true,nQ,nQ,nQ];unfold fJ;rw [e];have hd: @decide ((A.map Dp.nm++(B.map Dp.nm++C.map Dp.nm)).Nodup) (Classical.propDecidable _)=true↔(A.map Dp.nm++(B.map Dp.nm++C.map Dp.nm)).Nodup:=⟨fun h=> @of_decide_eq_true _ (Classical.propDecidable _) h,fun h=> @decide_eq_true _ (Classical.propDecidable _) h⟩;rw [hd,List.nodup_append,List.nodup_append]
 constructor
 · rintro ⟨_,⟨_,_,h2⟩,h3⟩
   exact ⟨fun a ka b kb=>h3 a ka b (List.mem_append_left _ kb),fun a ka b kb=>h3 a ka b (List.mem_append_right _ kb),h2⟩
 · rintro ⟨h1,h2,h3⟩
   exact ⟨jF ha,⟨jF hb,jF hc,h3⟩,fun a ka b kb=>by
    rcases List.mem_append.1 kb with kb|kb
    · exact h1 a ka b kb
    · exact h2 a ka b kb⟩
theorem MZ (P:Pg):MX P=aX P:=by
 unfold MX aX iE;cases hl:(aO P.d&&(aO P.p&&aO P.o))
 · simp
 · rw [Bool.and_eq_true,Bool.and_eq_true] at hl
   have r:∀ {L:List Dp},aO L=true→cK none L=true:=fun h=>by unfold aO at h;rw [Bool.and_eq_true] at h;exact h.2
   unfold tD;rw [qS (r hl.1) (r hl.2.1) (r hl.2.2)]
end Go.Proofs.YtlmpiohbmlddiaaGreatDoor
