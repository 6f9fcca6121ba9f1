/- Rk6, Rk9, Rk7d: their declarations that are needed, laid in one text, remarks and blanks left out. -/
import Derived.Test.YtpfemjlhklnfoaaGreatDoorMh13
namespace Go.Proofs.YtpfemjlhklnfoaaGreatDoor
open Go.RowKit
set_option maxRecDepth 100000
set_option maxHeartbeats 3200000 in
theorem CB {P:Pg} {v1 v2 v3:Value} {w:World} (h:PgAt w P v1 v2 v3) (hn:P.nm.size≤16) (h1:aM P.d=true) (h2:aM P.p=true) (h3:aM P.o=true):
 Calls Tryz.prog 89 #[.agg #[.string P.nm,.int .i64 P.a,.int .i64 P.b,.int .i64 P.c,v1,v2,v3]] w fun e w'=>e= .returned (.string ⟨(dT P).toArray⟩)∧Below w.heap.size w w':=by
 have HL1:Hid (∀ w1,Below w.heap.size w w1→Calls Tryz.prog 142 #[.string (lwK 0),v1] w1 fun e w'=>e= .returned (.string ⟨(aV (lwK 0) P.d).toArray⟩)∧Below w1.heap.size w1 w'):=fun w1 hb=>lF (h.1.below hb) h1 (dK 0)
 have HL2:Hid (∀ w1,Below w.heap.size w w1→Calls Tryz.prog 142 #[.string (lwK 1),v2] w1 fun e w'=>e= .returned (.string ⟨(aV (lwK 1) P.p).toArray⟩)∧Below w1.heap.size w1 w'):=fun w1 hb=>lF (h.2.1.below hb) h2 (dK 1)
 have HL3:Hid (∀ w1,Below w.heap.size w w1→Calls Tryz.prog 142 #[.string (lwK 2),v3] w1 fun e w'=>e= .returned (.string ⟨(aV (lwK 2) P.o).toArray⟩)∧Below w1.heap.size w1 w'):=fun w1 hb=>lF (h.2.2.below hb) h3 (dK 2)
 have HPV:Hid (∀ w1,Calls Tryz.prog 141 #[.agg #[.int .i64 P.a,.int .i64 P.b,.int .i64 P.c]] w1 fun e w'=>e= .returned (.string (aT P.a P.b P.c))∧Below w1.heap.size w1 w'):=fun w1=>jC _ _ _ w1
 have s1:(⟨(aV (lwK 0) P.d).toArray⟩:ByteArray).size≤80000:=by have:=cY (dK 0) h1 P.d.length;rw [List.take_length] at this;rw [kF];exact this
 have s2:(⟨(aV (lwK 1) P.p).toArray⟩:ByteArray).size≤80000:=by have:=cY (dK 1) h2 P.p.length;rw [List.take_length] at this;rw [kF];exact this
 have s3:(⟨(aV (lwK 2) P.o).toArray⟩:ByteArray).size≤80000:=by have:=cY (dK 2) h3 P.o.length;rw [List.take_length] at this;rw [kF];exact this
 have sv:=cB P.a P.b P.c
 have HTX:Hid ((⟨#[112,97,99,107,97,103,101,32]⟩++P.nm++⟨#[32]⟩++aT P.a P.b P.c++⟨#[10]⟩++⟨(aV (lwK 0) P.d).toArray⟩++⟨(aV (lwK 1) P.p).toArray⟩++⟨(aV (lwK 2) P.o).toArray⟩:ByteArray)=⟨(dT P).toArray⟩):=by
  refine fQ ?_;simp only [OM];unfold dT eW
  simp
 have k0:lwK 0=⟨#[110,101,101,100,115]⟩:=rfl;have k1:lwK 1=⟨#[98,101,115,105,100,101]⟩:=rfl;have k2:lwK 2=⟨#[108,105,107,101,115]⟩:=rfl;obtain ⟨a1,c1,rfl⟩:=h.1.sl;obtain ⟨a2,c2,rfl⟩:=h.2.1.sl;obtain ⟨a3,c3,rfl⟩:=h.2.2.sl;clear h h1 h2 h3;generalize dT P=TP at*;generalize (⟨(aV (lwK 0) P.d).toArray⟩:ByteArray)=T1 at*;generalize (⟨(aV (lwK 1) P.p).toArray⟩:ByteArray)=T2 at*;generalize (⟨(aV (lwK 2) P.o).toArray⟩:ByteArray)=T3 at*;generalize aT P.a P.b P.c=TV at*;rw [k0] at HL1;rw [k1] at HL2;rw [k2] at HL3;clear k0 k1 k2;have z0:(⟨#[112,97,99,107,97,103,101,32]⟩:ByteArray).size=8:=rfl;have z1:(⟨#[32]⟩:ByteArray).size=1:=rfl;have z2:(⟨#[10]⟩:ByteArray).size=1:=rfl;have e1:=fun W:World=>run_string_add_sum (P:=Tryz.prog) (w:=W) (⟨#[112,97,99,107,97,103,101,32]⟩) P.nm (by omega)
 have e2:=fun W:World=>run_string_add_sum (P:=Tryz.prog) (w:=W) (⟨#[112,97,99,107,97,103,101,32]⟩++P.nm) ⟨#[32]⟩ (by rw [cU];omega)
 have e3:=fun W:World=>run_string_add_sum (P:=Tryz.prog) (w:=W) (⟨#[112,97,99,107,97,103,101,32]⟩++P.nm++⟨#[32]⟩) TV (by rw [cU,cU];omega)
 have e4:=fun W:World=>run_string_add_sum (P:=Tryz.prog) (w:=W) (⟨#[112,97,99,107,97,103,101,32]⟩++P.nm++⟨#[32]⟩++TV) ⟨#[10]⟩ (by rw [cU,cU,cU];omega)
 have e5:=fun W:World=>run_string_add_sum (P:=Tryz.prog) (w:=W) (⟨#[112,97,99,107,97,103,101,32]⟩++P.nm++⟨#[32]⟩++TV++⟨#[10]⟩) T1 (by rw [cU,cU,cU,cU];omega)
 have e6:=fun W:World=>run_string_add_sum (P:=Tryz.prog) (w:=W) (⟨#[112,97,99,107,97,103,101,32]⟩++P.nm++⟨#[32]⟩++TV++⟨#[10]⟩++T1) T2 (by rw [cU,cU,cU,cU,cU];omega)
 have e7:=fun W:World=>run_string_add_sum (P:=Tryz.prog) (w:=W) (⟨#[112,97,99,107,97,103,101,32]⟩++P.nm++⟨#[32]⟩++TV++⟨#[10]⟩++T1++T2) T3 (by rw [cU,cU,cU,cU,cU,cU];omega)
 clear z0 z1 z2 s1 s2 s3 sv;have HO:Hid (Below w.heap.size w (w.alloc (.cells #[.string P.nm,.int .i64 P.a,.int .i64 P.b,.int .i64 P.c,.slice a1 P.d.length c1,.slice a2 P.p.length c2,.slice a3 P.o.length c3] 34))∧BxP (w.alloc (.cells #[.string P.nm,.int .i64 P.a,.int .i64 P.b,.int .i64 P.c,.slice a1 P.d.length c1,.slice a2 P.p.length c2,.slice a3 P.o.length c3] 34)) w.heap.size P.nm P.a P.b P.c (.slice a1 P.d.length c1) (.slice a2 P.p.length c2) (.slice a3 P.o.length c3)):=⟨aD _ _,BxP.new rfl _ _ _ _ _ _ _⟩;have HK:Hid (KeepP fun w1=>Below w.heap.size w w1∧BxP w1 w.heap.size P.nm P.a P.b P.c (.slice a1 P.d.length c1) (.slice a2 P.p.length c2) (.slice a3 P.o.length c3)):=(aG w).and (bF _ _ _ _ _ _ _ _)
 have HC1:Hid (∀ w1,(Below w.heap.size w w1∧BxP w1 w.heap.size P.nm P.a P.b P.c (.slice a1 P.d.length c1) (.slice a2 P.p.length c2) (.slice a3 P.o.length c3))→Calls Tryz.prog 142 #[.string ⟨#[110,101,101,100,115]⟩,.slice a1 P.d.length c1] w1 fun e w'=>e= .returned (.string T1)∧Below w1.heap.size w1 w'):=fun w1 hh=>HL1.out w1 hh.1
 have HC2:Hid (∀ w1,(Below w.heap.size w w1∧BxP w1 w.heap.size P.nm P.a P.b P.c (.slice a1 P.d.length c1) (.slice a2 P.p.length c2) (.slice a3 P.o.length c3))→Calls Tryz.prog 142 #[.string ⟨#[98,101,115,105,100,101]⟩,.slice a2 P.p.length c2] w1 fun e w'=>e= .returned (.string T2)∧Below w1.heap.size w1 w'):=fun w1 hh=>HL2.out w1 hh.1
 have HC3:Hid (∀ w1,(Below w.heap.size w w1∧BxP w1 w.heap.size P.nm P.a P.b P.c (.slice a1 P.d.length c1) (.slice a2 P.p.length c2) (.slice a3 P.o.length c3))→Calls Tryz.prog 142 #[.string ⟨#[108,105,107,101,115]⟩,.slice a3 P.o.length c3] w1 fun e w'=>e= .returned (.string T3)∧Below w1.heap.size w1 w'):=fun w1 hh=>HL3.out w1 hh.1
 clear HL1 HL2 HL3
 go_enter Tryz.func89,Tryz.ntmps89
 go_wp2_with fail
 refine bA HK (by kernel_rfl) (by kernel_rfl) (by first|exact HO.out|exact HK.out.drew HO.out) ?_;intro C HIN HOUT;clear HO
 repeat
  (with_reducible refine wpQuiet_step (fun K hK=> ?_)
   go_simp
   first
    |(refine hK _ ?_;clear hK K)
    |(apply Exists.intro;refine ⟨fun w1 hC=> ?_,hK _ ?_⟩;(focus ((first|(go_at_call 141;with_reducible exact aU HIN HOUT HK HPV.out w1 hC)|(go_at_call 142;with_reducible exact cI HIN HOUT HK HC1.out w1 hC)|(go_at_call 142;with_reducible exact cI HIN HOUT HK HC2.out w1 hC)|(go_at_call 142;with_reducible exact cI HIN HOUT HK HC3.out w1 hC)|(exact rfl)|(obtain ⟨hb1,⟨y0,y1,y2,y3,y4,y5,y6,y7⟩⟩:=HOUT.out w1 hC;clear hC;go_simp;first|done|exact rfl));done));clear hK K))
 refine wpQuiet_nil ?_;intro wn hC;have HO:=aA (HOUT.out _ hC);clear hC HIN HOUT C;obtain ⟨hb1,⟨y0,y1,y2,y3,y4,y5,y6,y7⟩⟩:=HO.out
 go_wp2
 go_ret;exact ⟨congrArg (fun s=>Ending.returned (.string s)) HTX.out,HO.out.1⟩
def FG (P:Pg):Bool:=Sc.aQ P.nm.data.toList&&aN P.a P.b P.c&&(aM P.d&&(aM P.p&&aM P.o))&&(bP P.d P.p&&(bP P.d P.o&&bP P.p P.o))&&decide ((dT P).length≤4096)
set_option maxHeartbeats 6400000 in
theorem mI {P:Pg} {v1 v2 v3:Value} {w:World} (h:PgAt w P v1 v2 v3) (hz:P.d.length≤9223372036854775807∧P.p.length≤9223372036854775807∧P.o.length≤9223372036854775807) (hn:P.nm.size≤9223372036854775807∧(∀ d ∈ P.d,d.nm.size≤9223372036854775807)∧(∀ d ∈ P.p,d.nm.size≤9223372036854775807)∧∀ d ∈ P.o,d.nm.size≤9223372036854775807):
 Calls Tryz.prog 45 #[.agg #[.string P.nm,.int .i64 P.a,.int .i64 P.b,.int .i64 P.c,v1,v2,v3]] w fun e w'=>e= .returned (.bool (FG P))∧Below w.heap.size w w':=by
 obtain ⟨a1,c1,rfl⟩:=h.1.sl;obtain ⟨a2,c2,rfl⟩:=h.2.1.sl;obtain ⟨a3,c3,rfl⟩:=h.2.2.sl;have HN:Hid (∀ w1,Below w.heap.size w w1→Calls Tryz.prog 85 #[.string P.nm] w1 fun e w'=>e= .returned (.bool (Sc.aQ P.nm.data.toList))∧Below w1.heap.size w1 w'):=fun w1 _=>(Sc.qG P.nm hn.1 w1).mono fun e w' ⟨h1,h2⟩=>⟨h1,by rw [h2];exact Below.refl _ _⟩
 have HV:Hid (∀ w1,Below w.heap.size w w1→Calls Tryz.prog 86 #[.agg #[.int .i64 P.a,.int .i64 P.b,.int .i64 P.c]] w1 fun e w'=>e= .returned (.bool (aN P.a P.b P.c))∧Below w1.heap.size w1 w'):=fun w1 _=>gN _ _ _ w1
 have H1:Hid (∀ w1,Below w.heap.size w w1→Calls Tryz.prog 87 #[.slice a1 P.d.length c1] w1 fun e w'=>e= .returned (.bool (aM P.d))∧Below w1.heap.size w1 w'):=fun w1 hb=>lD (h.1.below hb) hz.1 hn.2.1
 have H2:Hid (∀ w1,Below w.heap.size w w1→Calls Tryz.prog 87 #[.slice a2 P.p.length c2] w1 fun e w'=>e= .returned (.bool (aM P.p))∧Below w1.heap.size w1 w'):=fun w1 hb=>lD (h.2.1.below hb) hz.2.1 hn.2.2.1
 have H3:Hid (∀ w1,Below w.heap.size w w1→Calls Tryz.prog 87 #[.slice a3 P.o.length c3] w1 fun e w'=>e= .returned (.bool (aM P.o))∧Below w1.heap.size w1 w'):=fun w1 hb=>lD (h.2.2.below hb) hz.2.2 hn.2.2.2
 have A12:Hid (aM P.d=true→aM P.p=true→∀ w1,Below w.heap.size w w1→Calls Tryz.prog 88 #[.slice a1 P.d.length c1,.slice a2 P.p.length c2] w1 fun e w'=>e= .returned (.bool (bP P.d P.p))∧Below w1.heap.size w1 w'):=fun g1 g2 w1 hb=>jG (h.1.below hb) (h.2.1.below hb) ⟨by have:=(bH g1).1;omega,by have:=(bH g2).1;omega⟩
 have A13:Hid (aM P.d=true→aM P.o=true→∀ w1,Below w.heap.size w w1→Calls Tryz.prog 88 #[.slice a1 P.d.length c1,.slice a3 P.o.length c3] w1 fun e w'=>e= .returned (.bool (bP P.d P.o))∧Below w1.heap.size w1 w'):=fun g1 g2 w1 hb=>jG (h.1.below hb) (h.2.2.below hb) ⟨by have:=(bH g1).1;omega,by have:=(bH g2).1;omega⟩
 have A23:Hid (aM P.p=true→aM P.o=true→∀ w1,Below w.heap.size w w1→Calls Tryz.prog 88 #[.slice a2 P.p.length c2,.slice a3 P.o.length c3] w1 fun e w'=>e= .returned (.bool (bP P.p P.o))∧Below w1.heap.size w1 w'):=fun g1 g2 w1 hb=>jG (h.2.1.below hb) (h.2.2.below hb) ⟨by have:=(bH g1).1;omega,by have:=(bH g2).1;omega⟩
 have HT:Hid (Sc.aQ P.nm.data.toList=true→aM P.d=true→aM P.p=true→aM P.o=true→∀ w1,Below w.heap.size w w1→Calls Tryz.prog 89 #[.agg #[.string P.nm,.int .i64 P.a,.int .i64 P.b,.int .i64 P.c,.slice a1 P.d.length c1,.slice a2 P.p.length c2,.slice a3 P.o.length c3]] w1 fun e w'=>e= .returned (.string ⟨(dT P).toArray⟩)∧Below w1.heap.size w1 w'):=fun g0 g1 g2 g3 w1 hb=>CB (h.below hb) (by unfold Sc.aQ at g0;rw [Bool.and_eq_true,decide_eq_true_eq,aX] at g0;exact g0.2) g1 g2 g3
 have HD:Hid (FG P=(Sc.aQ P.nm.data.toList&&aN P.a P.b P.c&&(aM P.d&&(aM P.p&&aM P.o))&&(bP P.d P.p&&(bP P.d P.o&&bP P.p P.o))&&decide ((dT P).length≤4096))):=rfl;have HZ:Hid ((⟨(dT P).toArray⟩:ByteArray).size=(dT P).length):=kF _;clear h hz hn;generalize FG P=DB at*;generalize Sc.aQ P.nm.data.toList=b0 at*;generalize aN P.a P.b P.c=bv at*;generalize aM P.d=b1 at*;generalize aM P.p=b2 at*;generalize aM P.o=b3 at*;generalize bP P.d P.p=p12 at*;generalize bP P.d P.o=p13 at*;generalize bP P.p P.o=p23 at*;generalize (⟨(dT P).toArray⟩:ByteArray)=TX at*;generalize (dT P).length=tl at*;cases b0
 · skip
   have HR:Hid (DB=false):=by unfold Hid;rw [HD.out];simp
   have HK0:Hid (KeepP fun w1=>(Below w.heap.size w w1)∧BxP w1 w.heap.size P.nm P.a P.b P.c (.slice a1 P.d.length c1) (.slice a2 P.p.length c2) (.slice a3 P.o.length c3)):=(KeepP.and (aG w) (bF _ _ _ _ _ _ _ _));have HO0:Hid ((Below w.heap.size w (w.alloc (.cells #[.string P.nm,.int .i64 P.a,.int .i64 P.b,.int .i64 P.c,.slice a1 P.d.length c1,.slice a2 P.p.length c2,.slice a3 P.o.length c3] 34)))∧BxP (w.alloc (.cells #[.string P.nm,.int .i64 P.a,.int .i64 P.b,.int .i64 P.c,.slice a1 P.d.length c1,.slice a2 P.p.length c2,.slice a3 P.o.length c3] 34)) w.heap.size P.nm P.a P.b P.c (.slice a1 P.d.length c1) (.slice a2 P.p.length c2) (.slice a3 P.o.length c3)):=⟨aD _ _,BxP.new rfl _ _ _ _ _ _ _⟩;obtain ⟨g0,g1,g2,g3,g4,g5,g6,g7⟩:=HO0.out.2
   go_enter Tryz.func45,Tryz.ntmps45
   go_wp2_with (first
    |(have _h:=HO0;go_at_call 85;refine (HN.out _ (HO0.out.1)).mono ?_;rintro e y1 ⟨rfl,ok⟩;have HO1:Hid ((Below w.heap.size w y1)∧BxP y1 w.heap.size P.nm P.a P.b P.c (.slice a1 P.d.length c1) (.slice a2 P.p.length c2) (.slice a3 P.o.length c3)):=HK0.out _ _ HO0.out ok;clear ok HO0 g0 g1 g2 g3 g4 g5 g6 g7;obtain ⟨g0,g1,g2,g3,g4,g5,g6,g7⟩:=HO1.out.2))
   go_ret;exact ⟨aC HR.out.symm,HO1.out.1⟩
 · cases bv
   · skip
     have HR:Hid (DB=false):=by unfold Hid;rw [HD.out];simp
     have HK0:Hid (KeepP fun w1=>(Below w.heap.size w w1)∧BxP w1 w.heap.size P.nm P.a P.b P.c (.slice a1 P.d.length c1) (.slice a2 P.p.length c2) (.slice a3 P.o.length c3)):=(KeepP.and (aG w) (bF _ _ _ _ _ _ _ _));have HO0:Hid ((Below w.heap.size w (w.alloc (.cells #[.string P.nm,.int .i64 P.a,.int .i64 P.b,.int .i64 P.c,.slice a1 P.d.length c1,.slice a2 P.p.length c2,.slice a3 P.o.length c3] 34)))∧BxP (w.alloc (.cells #[.string P.nm,.int .i64 P.a,.int .i64 P.b,.int .i64 P.c,.slice a1 P.d.length c1,.slice a2 P.p.length c2,.slice a3 P.o.length c3] 34)) w.heap.size P.nm P.a P.b P.c (.slice a1 P.d.length c1) (.slice a2 P.p.length c2) (.slice a3 P.o.length c3)):=⟨aD _ _,BxP.new rfl _ _ _ _ _ _ _⟩;obtain ⟨g0,g1,g2,g3,g4,g5,g6,g7⟩:=HO0.out.2
     go_enter Tryz.func45,Tryz.ntmps45
     go_wp2_with (first
      |(have _h:=HO0;go_at_call 85;refine (HN.out _ (HO0.out.1)).mono ?_;rintro e y1 ⟨rfl,ok⟩;have HO1:Hid ((Below w.heap.size w y1)∧BxP y1 w.heap.size P.nm P.a P.b P.c (.slice a1 P.d.length c1) (.slice a2 P.p.length c2) (.slice a3 P.o.length c3)):=HK0.out _ _ HO0.out ok;clear ok HO0 g0 g1 g2 g3 g4 g5 g6 g7;obtain ⟨g0,g1,g2,g3,g4,g5,g6,g7⟩:=HO1.out.2)
      |(have _h:=HO1;go_at_call 86;refine (HV.out _ (HO1.out.1)).mono ?_;rintro e y2 ⟨rfl,ok⟩;have HO2:Hid ((Below w.heap.size w y2)∧BxP y2 w.heap.size P.nm P.a P.b P.c (.slice a1 P.d.length c1) (.slice a2 P.p.length c2) (.slice a3 P.o.length c3)):=HK0.out _ _ HO1.out ok;clear ok HO1 g0 g1 g2 g3 g4 g5 g6 g7;obtain ⟨g0,g1,g2,g3,g4,g5,g6,g7⟩:=HO2.out.2))
     go_ret;exact ⟨aC HR.out.symm,HO2.out.1⟩
   · cases b1
     · skip
       have HR:Hid (DB=false):=by unfold Hid;rw [HD.out];simp
       have HK0:Hid (KeepP fun w1=>(Below w.heap.size w w1)∧BxP w1 w.heap.size P.nm P.a P.b P.c (.slice a1 P.d.length c1) (.slice a2 P.p.length c2) (.slice a3 P.o.length c3)):=(KeepP.and (aG w) (bF _ _ _ _ _ _ _ _));have HO0:Hid ((Below w.heap.size w (w.alloc (.cells #[.string P.nm,.int .i64 P.a,.int .i64 P.b,.int .i64 P.c,.slice a1 P.d.length c1,.slice a2 P.p.length c2,.slice a3 P.o.length c3] 34)))∧BxP (w.alloc (.cells #[.string P.nm,.int .i64 P.a,.int .i64 P.b,.int .i64 P.c,.slice a1 P.d.length c1,.slice a2 P.p.length c2,.slice a3 P.o.length c3] 34)) w.heap.size P.nm P.a P.b P.c (.slice a1 P.d.length c1) (.slice a2 P.p.length c2) (.slice a3 P.o.length c3)):=⟨aD _ _,BxP.new rfl _ _ _ _ _ _ _⟩;obtain ⟨g0,g1,g2,g3,g4,g5,g6,g7⟩:=HO0.out.2
       go_enter Tryz.func45,Tryz.ntmps45
       go_wp2_with (first
        |(have _h:=HO0;go_at_call 85;refine (HN.out _ (HO0.out.1)).mono ?_;rintro e y1 ⟨rfl,ok⟩;have HO1:Hid ((Below w.heap.size w y1)∧BxP y1 w.heap.size P.nm P.a P.b P.c (.slice a1 P.d.length c1) (.slice a2 P.p.length c2) (.slice a3 P.o.length c3)):=HK0.out _ _ HO0.out ok;clear ok HO0 g0 g1 g2 g3 g4 g5 g6 g7;obtain ⟨g0,g1,g2,g3,g4,g5,g6,g7⟩:=HO1.out.2)
        |(have _h:=HO1;go_at_call 86;refine (HV.out _ (HO1.out.1)).mono ?_;rintro e y2 ⟨rfl,ok⟩;have HO2:Hid ((Below w.heap.size w y2)∧BxP y2 w.heap.size P.nm P.a P.b P.c (.slice a1 P.d.length c1) (.slice a2 P.p.length c2) (.slice a3 P.o.length c3)):=HK0.out _ _ HO1.out ok;clear ok HO1 g0 g1 g2 g3 g4 g5 g6 g7;obtain ⟨g0,g1,g2,g3,g4,g5,g6,g7⟩:=HO2.out.2)
        |(have _h:=HO2;go_at_call 87;refine (H1.out _ (HO2.out.1)).mono ?_;rintro e y3 ⟨rfl,ok⟩;have HO3:Hid ((Below w.heap.size w y3)∧BxP y3 w.heap.size P.nm P.a P.b P.c (.slice a1 P.d.length c1) (.slice a2 P.p.length c2) (.slice a3 P.o.length c3)):=HK0.out _ _ HO2.out ok;clear ok HO2 g0 g1 g2 g3 g4 g5 g6 g7;obtain ⟨g0,g1,g2,g3,g4,g5,g6,g7⟩:=HO3.out.2))
       go_ret;exact ⟨aC HR.out.symm,HO3.out.1⟩
     · cases b2
       · skip
         have HR:Hid (DB=false):=by unfold Hid;rw [HD.out];simp
         have HK0:Hid (KeepP fun w1=>(Below w.heap.size w w1)∧BxP w1 w.heap.size P.nm P.a P.b P.c (.slice a1 P.d.length c1) (.slice a2 P.p.length c2) (.slice a3 P.o.length c3)):=(KeepP.and (aG w) (bF _ _ _ _ _ _ _ _));have HO0:Hid ((Below w.heap.size w (w.alloc (.cells #[.string P.nm,.int .i64 P.a,.int .i64 P.b,.int .i64 P.c,.slice a1 P.d.length c1,.slice a2 P.p.length c2,.slice a3 P.o.length c3] 34)))∧BxP (w.alloc (.cells #[.string P.nm,.int .i64 P.a,.int .i64 P.b,.int .i64 P.c,.slice a1 P.d.length c1,.slice a2 P.p.length c2,.slice a3 P.o.length c3] 34)) w.heap.size P.nm P.a P.b P.c (.slice a1 P.d.length c1) (.slice a2 P.p.length c2) (.slice a3 P.o.length c3)):=⟨aD _ _,BxP.new rfl _ _ _ _ _ _ _⟩;obtain ⟨g0,g1,g2,g3,g4,g5,g6,g7⟩:=HO0.out.2
         go_enter Tryz.func45,Tryz.ntmps45
         go_wp2_with (first
          |(have _h:=HO0;go_at_call 85;refine (HN.out _ (HO0.out.1)).mono ?_;rintro e y1 ⟨rfl,ok⟩;have HO1:Hid ((Below w.heap.size w y1)∧BxP y1 w.heap.size P.nm P.a P.b P.c (.slice a1 P.d.length c1) (.slice a2 P.p.length c2) (.slice a3 P.o.length c3)):=HK0.out _ _ HO0.out ok;clear ok HO0 g0 g1 g2 g3 g4 g5 g6 g7;obtain ⟨g0,g1,g2,g3,g4,g5,g6,g7⟩:=HO1.out.2)
          |(have _h:=HO1;go_at_call 86;refine (HV.out _ (HO1.out.1)).mono ?_;rintro e y2 ⟨rfl,ok⟩;have HO2:Hid ((Below w.heap.size w y2)∧BxP y2 w.heap.size P.nm P.a P.b P.c (.slice a1 P.d.length c1) (.slice a2 P.p.length c2) (.slice a3 P.o.length c3)):=HK0.out _ _ HO1.out ok;clear ok HO1 g0 g1 g2 g3 g4 g5 g6 g7;obtain ⟨g0,g1,g2,g3,g4,g5,g6,g7⟩:=HO2.out.2)
          |(have _h:=HO2;go_at_call 87;refine (H1.out _ (HO2.out.1)).mono ?_;rintro e y3 ⟨rfl,ok⟩;have HO3:Hid ((Below w.heap.size w y3)∧BxP y3 w.heap.size P.nm P.a P.b P.c (.slice a1 P.d.length c1) (.slice a2 P.p.length c2) (.slice a3 P.o.length c3)):=HK0.out _ _ HO2.out ok;clear ok HO2 g0 g1 g2 g3 g4 g5 g6 g7;obtain ⟨g0,g1,g2,g3,g4,g5,g6,g7⟩:=HO3.out.2)
          |(have _h:=HO3;go_at_call 87;refine (H2.out _ (HO3.out.1)).mono ?_;rintro e y4 ⟨rfl,ok⟩;have HO4:Hid ((Below w.heap.size w y4)∧BxP y4 w.heap.size P.nm P.a P.b P.c (.slice a1 P.d.length c1) (.slice a2 P.p.length c2) (.slice a3 P.o.length c3)):=HK0.out _ _ HO3.out ok;clear ok HO3 g0 g1 g2 g3 g4 g5 g6 g7;obtain ⟨g0,g1,g2,g3,g4,g5,g6,g7⟩:=HO4.out.2))
         go_ret;exact ⟨aC HR.out.symm,HO4.out.1⟩
       · cases b3
         · skip
           have HR:Hid (DB=false):=by unfold Hid;rw [HD.out];simp
           have HK0:Hid (KeepP fun w1=>(Below w.heap.size w w1)∧BxP w1 w.heap.size P.nm P.a P.b P.c (.slice a1 P.d.length c1) (.slice a2 P.p.length c2) (.slice a3 P.o.length c3)):=(KeepP.and (aG w) (bF _ _ _ _ _ _ _ _));have HO0:Hid ((Below w.heap.size w (w.alloc (.cells #[.string P.nm,.int .i64 P.a,.int .i64 P.b,.int .i64 P.c,.slice a1 P.d.length c1,.slice a2 P.p.length c2,.slice a3 P.o.length c3] 34)))∧BxP (w.alloc (.cells #[.string P.nm,.int .i64 P.a,.int .i64 P.b,.int .i64 P.c,.slice a1 P.d.length c1,.slice a2 P.p.length c2,.slice a3 P.o.length c3] 34)) w.heap.size P.nm P.a P.b P.c (.slice a1 P.d.length c1) (.slice a2 P.p.length c2) (.slice a3 P.o.length c3)):=⟨aD _ _,BxP.new rfl _ _ _ _ _ _ _⟩;obtain ⟨g0,g1,g2,g3,g4,g5,g6,g7⟩:=HO0.out.2
           go_enter Tryz.func45,Tryz.ntmps45
           go_wp2_with (first
            |(have _h:=HO0;go_at_call 85;refine (HN.out _ (HO0.out.1)).mono ?_;rintro e y1 ⟨rfl,ok⟩;have HO1:Hid ((Below w.heap.size w y1)∧BxP y1 w.heap.size P.nm P.a P.b P.c (.slice a1 P.d.length c1) (.slice a2 P.p.length c2) (.slice a3 P.o.length c3)):=HK0.out _ _ HO0.out ok;clear ok HO0 g0 g1 g2 g3 g4 g5 g6 g7;obtain ⟨g0,g1,g2,g3,g4,g5,g6,g7⟩:=HO1.out.2)
            |(have _h:=HO1;go_at_call 86;refine (HV.out _ (HO1.out.1)).mono ?_;rintro e y2 ⟨rfl,ok⟩;have HO2:Hid ((Below w.heap.size w y2)∧BxP y2 w.heap.size P.nm P.a P.b P.c (.slice a1 P.d.length c1) (.slice a2 P.p.length c2) (.slice a3 P.o.length c3)):=HK0.out _ _ HO1.out ok;clear ok HO1 g0 g1 g2 g3 g4 g5 g6 g7;obtain ⟨g0,g1,g2,g3,g4,g5,g6,g7⟩:=HO2.out.2)
            |(have _h:=HO2;go_at_call 87;refine (H1.out _ (HO2.out.1)).mono ?_;rintro e y3 ⟨rfl,ok⟩;have HO3:Hid ((Below w.heap.size w y3)∧BxP y3 w.heap.size P.nm P.a P.b P.c (.slice a1 P.d.length c1) (.slice a2 P.p.length c2) (.slice a3 P.o.length c3)):=HK0.out _ _ HO2.out ok;clear ok HO2 g0 g1 g2 g3 g4 g5 g6 g7;obtain ⟨g0,g1,g2,g3,g4,g5,g6,g7⟩:=HO3.out.2)
            |(have _h:=HO3;go_at_call 87;refine (H2.out _ (HO3.out.1)).mono ?_;rintro e y4 ⟨rfl,ok⟩;have HO4:Hid ((Below w.heap.size w y4)∧BxP y4 w.heap.size P.nm P.a P.b P.c (.slice a1 P.d.length c1) (.slice a2 P.p.length c2) (.slice a3 P.o.length c3)):=HK0.out _ _ HO3.out ok;clear ok HO3 g0 g1 g2 g3 g4 g5 g6 g7;obtain ⟨g0,g1,g2,g3,g4,g5,g6,g7⟩:=HO4.out.2)
            |(have _h:=HO4;go_at_call 87;refine (H3.out _ (HO4.out.1)).mono ?_;rintro e y5 ⟨rfl,ok⟩;have HO5:Hid ((Below w.heap.size w y5)∧BxP y5 w.heap.size P.nm P.a P.b P.c (.slice a1 P.d.length c1) (.slice a2 P.p.length c2) (.slice a3 P.o.length c3)):=HK0.out _ _ HO4.out ok;clear ok HO4 g0 g1 g2 g3 g4 g5 g6 g7;obtain ⟨g0,g1,g2,g3,g4,g5,g6,g7⟩:=HO5.out.2))
           go_ret;exact ⟨aC HR.out.symm,HO5.out.1⟩
         · have B12:=aA (A12.out (by first|rfl|trivial) (by first|rfl|trivial))
           have B13:=aA (A13.out (by first|rfl|trivial) (by first|rfl|trivial));have B23:=aA (A23.out (by first|rfl|trivial) (by first|rfl|trivial));have BT:=aA (HT.out (by first|rfl|trivial) (by first|rfl|trivial) (by first|rfl|trivial) (by first|rfl|trivial));clear A12 A13 A23 HT;cases p12
           · skip
             have HR:Hid (DB=false):=by unfold Hid;rw [HD.out];simp
             have HK0:Hid (KeepP fun w1=>(Below w.heap.size w w1)∧BxP w1 w.heap.size P.nm P.a P.b P.c (.slice a1 P.d.length c1) (.slice a2 P.p.length c2) (.slice a3 P.o.length c3)):=(KeepP.and (aG w) (bF _ _ _ _ _ _ _ _));have HO0:Hid ((Below w.heap.size w (w.alloc (.cells #[.string P.nm,.int .i64 P.a,.int .i64 P.b,.int .i64 P.c,.slice a1 P.d.length c1,.slice a2 P.p.length c2,.slice a3 P.o.length c3] 34)))∧BxP (w.alloc (.cells #[.string P.nm,.int .i64 P.a,.int .i64 P.b,.int .i64 P.c,.slice a1 P.d.length c1,.slice a2 P.p.length c2,.slice a3 P.o.length c3] 34)) w.heap.size P.nm P.a P.b P.c (.slice a1 P.d.length c1) (.slice a2 P.p.length c2) (.slice a3 P.o.length c3)):=⟨aD _ _,BxP.new rfl _ _ _ _ _ _ _⟩;obtain ⟨g0,g1,g2,g3,g4,g5,g6,g7⟩:=HO0.out.2
             go_enter Tryz.func45,Tryz.ntmps45
             go_wp2_with (first
              |(have _h:=HO0;go_at_call 85;refine (HN.out _ (HO0.out.1)).mono ?_;rintro e y1 ⟨rfl,ok⟩;have HO1:Hid ((Below w.heap.size w y1)∧BxP y1 w.heap.size P.nm P.a P.b P.c (.slice a1 P.d.length c1) (.slice a2 P.p.length c2) (.slice a3 P.o.length c3)):=HK0.out _ _ HO0.out ok;clear ok HO0 g0 g1 g2 g3 g4 g5 g6 g7;obtain ⟨g0,g1,g2,g3,g4,g5,g6,g7⟩:=HO1.out.2)
              |(have _h:=HO1;go_at_call 86;refine (HV.out _ (HO1.out.1)).mono ?_;rintro e y2 ⟨rfl,ok⟩;have HO2:Hid ((Below w.heap.size w y2)∧BxP y2 w.heap.size P.nm P.a P.b P.c (.slice a1 P.d.length c1) (.slice a2 P.p.length c2) (.slice a3 P.o.length c3)):=HK0.out _ _ HO1.out ok;clear ok HO1 g0 g1 g2 g3 g4 g5 g6 g7;obtain ⟨g0,g1,g2,g3,g4,g5,g6,g7⟩:=HO2.out.2)
              |(have _h:=HO2;go_at_call 87;refine (H1.out _ (HO2.out.1)).mono ?_;rintro e y3 ⟨rfl,ok⟩;have HO3:Hid ((Below w.heap.size w y3)∧BxP y3 w.heap.size P.nm P.a P.b P.c (.slice a1 P.d.length c1) (.slice a2 P.p.length c2) (.slice a3 P.o.length c3)):=HK0.out _ _ HO2.out ok;clear ok HO2 g0 g1 g2 g3 g4 g5 g6 g7;obtain ⟨g0,g1,g2,g3,g4,g5,g6,g7⟩:=HO3.out.2)
              |(have _h:=HO3;go_at_call 87;refine (H2.out _ (HO3.out.1)).mono ?_;rintro e y4 ⟨rfl,ok⟩;have HO4:Hid ((Below w.heap.size w y4)∧BxP y4 w.heap.size P.nm P.a P.b P.c (.slice a1 P.d.length c1) (.slice a2 P.p.length c2) (.slice a3 P.o.length c3)):=HK0.out _ _ HO3.out ok;clear ok HO3 g0 g1 g2 g3 g4 g5 g6 g7;obtain ⟨g0,g1,g2,g3,g4,g5,g6,g7⟩:=HO4.out.2)
              |(have _h:=HO4;go_at_call 87;refine (H3.out _ (HO4.out.1)).mono ?_;rintro e y5 ⟨rfl,ok⟩;have HO5:Hid ((Below w.heap.size w y5)∧BxP y5 w.heap.size P.nm P.a P.b P.c (.slice a1 P.d.length c1) (.slice a2 P.p.length c2) (.slice a3 P.o.length c3)):=HK0.out _ _ HO4.out ok;clear ok HO4 g0 g1 g2 g3 g4 g5 g6 g7;obtain ⟨g0,g1,g2,g3,g4,g5,g6,g7⟩:=HO5.out.2)
              |(have _h:=HO5;go_at_call 88;refine (B12.out _ (HO5.out.1)).mono ?_;rintro e y6 ⟨rfl,ok⟩;have HO6:Hid ((Below w.heap.size w y6)∧BxP y6 w.heap.size P.nm P.a P.b P.c (.slice a1 P.d.length c1) (.slice a2 P.p.length c2) (.slice a3 P.o.length c3)):=HK0.out _ _ HO5.out ok;clear ok HO5 g0 g1 g2 g3 g4 g5 g6 g7;obtain ⟨g0,g1,g2,g3,g4,g5,g6,g7⟩:=HO6.out.2))
             go_ret;exact ⟨aC HR.out.symm,HO6.out.1⟩
           · cases p13
             · skip
               have HR:Hid (DB=false):=by unfold Hid;rw [HD.out];simp
               have HK0:Hid (KeepP fun w1=>(Below w.heap.size w w1)∧BxP w1 w.heap.size P.nm P.a P.b P.c (.slice a1 P.d.length c1) (.slice a2 P.p.length c2) (.slice a3 P.o.length c3)):=(KeepP.and (aG w) (bF _ _ _ _ _ _ _ _));have HO0:Hid ((Below w.heap.size w (w.alloc (.cells #[.string P.nm,.int .i64 P.a,.int .i64 P.b,.int .i64 P.c,.slice a1 P.d.length c1,.slice a2 P.p.length c2,.slice a3 P.o.length c3] 34)))∧BxP (w.alloc (.cells #[.string P.nm,.int .i64 P.a,.int .i64 P.b,.int .i64 P.c,.slice a1 P.d.length c1,.slice a2 P.p.length c2,.slice a3 P.o.length c3] 34)) w.heap.size P.nm P.a P.b P.c (.slice a1 P.d.length c1) (.slice a2 P.p.length c2) (.slice a3 P.o.length c3)):=⟨aD _ _,BxP.new rfl _ _ _ _ _ _ _⟩;obtain ⟨g0,g1,g2,g3,g4,g5,g6,g7⟩:=HO0.out.2
               go_enter Tryz.func45,Tryz.ntmps45
               go_wp2_with (first
                |(have _h:=HO0;go_at_call 85;refine (HN.out _ (HO0.out.1)).mono ?_;rintro e y1 ⟨rfl,ok⟩;have HO1:Hid ((Below w.heap.size w y1)∧BxP y1 w.heap.size P.nm P.a P.b P.c (.slice a1 P.d.length c1) (.slice a2 P.p.length c2) (.slice a3 P.o.length c3)):=HK0.out _ _ HO0.out ok;clear ok HO0 g0 g1 g2 g3 g4 g5 g6 g7;obtain ⟨g0,g1,g2,g3,g4,g5,g6,g7⟩:=HO1.out.2)
                |(have _h:=HO1;go_at_call 86;refine (HV.out _ (HO1.out.1)).mono ?_;rintro e y2 ⟨rfl,ok⟩;have HO2:Hid ((Below w.heap.size w y2)∧BxP y2 w.heap.size P.nm P.a P.b P.c (.slice a1 P.d.length c1) (.slice a2 P.p.length c2) (.slice a3 P.o.length c3)):=HK0.out _ _ HO1.out ok;clear ok HO1 g0 g1 g2 g3 g4 g5 g6 g7;obtain ⟨g0,g1,g2,g3,g4,g5,g6,g7⟩:=HO2.out.2)
                |(have _h:=HO2;go_at_call 87;refine (H1.out _ (HO2.out.1)).mono ?_;rintro e y3 ⟨rfl,ok⟩;have HO3:Hid ((Below w.heap.size w y3)∧BxP y3 w.heap.size P.nm P.a P.b P.c (.slice a1 P.d.length c1) (.slice a2 P.p.length c2) (.slice a3 P.o.length c3)):=HK0.out _ _ HO2.out ok;clear ok HO2 g0 g1 g2 g3 g4 g5 g6 g7;obtain ⟨g0,g1,g2,g3,g4,g5,g6,g7⟩:=HO3.out.2)
                |(have _h:=HO3;go_at_call 87;refine (H2.out _ (HO3.out.1)).mono ?_;rintro e y4 ⟨rfl,ok⟩;have HO4:Hid ((Below w.heap.size w y4)∧BxP y4 w.heap.size P.nm P.a P.b P.c (.slice a1 P.d.length c1) (.slice a2 P.p.length c2) (.slice a3 P.o.length c3)):=HK0.out _ _ HO3.out ok;clear ok HO3 g0 g1 g2 g3 g4 g5 g6 g7;obtain ⟨g0,g1,g2,g3,g4,g5,g6,g7⟩:=HO4.out.2)
                |(have _h:=HO4;go_at_call 87;refine (H3.out _ (HO4.out.1)).mono ?_;rintro e y5 ⟨rfl,ok⟩;have HO5:Hid ((Below w.heap.size w y5)∧BxP y5 w.heap.size P.nm P.a P.b P.c (.slice a1 P.d.length c1) (.slice a2 P.p.length c2) (.slice a3 P.o.length c3)):=HK0.out _ _ HO4.out ok;clear ok HO4 g0 g1 g2 g3 g4 g5 g6 g7;obtain ⟨g0,g1,g2,g3,g4,g5,g6,g7⟩:=HO5.out.2)
                |(have _h:=HO5;go_at_call 88;refine (B12.out _ (HO5.out.1)).mono ?_;rintro e y6 ⟨rfl,ok⟩;have HO6:Hid ((Below w.heap.size w y6)∧BxP y6 w.heap.size P.nm P.a P.b P.c (.slice a1 P.d.length c1) (.slice a2 P.p.length c2) (.slice a3 P.o.length c3)):=HK0.out _ _ HO5.out ok;clear ok HO5 g0 g1 g2 g3 g4 g5 g6 g7;obtain ⟨g0,g1,g2,g3,g4,g5,g6,g7⟩:=HO6.out.2)
                |(have _h:=HO6;go_at_call 88;refine (B13.out _ (HO6.out.1)).mono ?_;rintro e y7 ⟨rfl,ok⟩;have HO7:Hid ((Below w.heap.size w y7)∧BxP y7 w.heap.size P.nm P.a P.b P.c (.slice a1 P.d.length c1) (.slice a2 P.p.length c2) (.slice a3 P.o.length c3)):=HK0.out _ _ HO6.out ok;clear ok HO6 g0 g1 g2 g3 g4 g5 g6 g7;obtain ⟨g0,g1,g2,g3,g4,g5,g6,g7⟩:=HO7.out.2))
               go_ret;exact ⟨aC HR.out.symm,HO7.out.1⟩
             · cases p23
               · skip
                 have HR:Hid (DB=false):=by unfold Hid;rw [HD.out];simp
                 have HK0:Hid (KeepP fun w1=>(Below w.heap.size w w1)∧BxP w1 w.heap.size P.nm P.a P.b P.c (.slice a1 P.d.length c1) (.slice a2 P.p.length c2) (.slice a3 P.o.length c3)):=(KeepP.and (aG w) (bF _ _ _ _ _ _ _ _));have HO0:Hid ((Below w.heap.size w (w.alloc (.cells #[.string P.nm,.int .i64 P.a,.int .i64 P.b,.int .i64 P.c,.slice a1 P.d.length c1,.slice a2 P.p.length c2,.slice a3 P.o.length c3] 34)))∧BxP (w.alloc (.cells #[.string P.nm,.int .i64 P.a,.int .i64 P.b,.int .i64 P.c,.slice a1 P.d.length c1,.slice a2 P.p.length c2,.slice a3 P.o.length c3] 34)) w.heap.size P.nm P.a P.b P.c (.slice a1 P.d.length c1) (.slice a2 P.p.length c2) (.slice a3 P.o.length c3)):=⟨aD _ _,BxP.new rfl _ _ _ _ _ _ _⟩;obtain ⟨g0,g1,g2,g3,g4,g5,g6,g7⟩:=HO0.out.2
                 go_enter Tryz.func45,Tryz.ntmps45
                 go_wp2_with (first
                  |(have _h:=HO0;go_at_call 85;refine (HN.out _ (HO0.out.1)).mono ?_;rintro e y1 ⟨rfl,ok⟩;have HO1:Hid ((Below w.heap.size w y1)∧BxP y1 w.heap.size P.nm P.a P.b P.c (.slice a1 P.d.length c1) (.slice a2 P.p.length c2) (.slice a3 P.o.length c3)):=HK0.out _ _ HO0.out ok;clear ok HO0 g0 g1 g2 g3 g4 g5 g6 g7;obtain ⟨g0,g1,g2,g3,g4,g5,g6,g7⟩:=HO1.out.2)
                  |(have _h:=HO1;go_at_call 86;refine (HV.out _ (HO1.out.1)).mono ?_;rintro e y2 ⟨rfl,ok⟩;have HO2:Hid ((Below w.heap.size w y2)∧BxP y2 w.heap.size P.nm P.a P.b P.c (.slice a1 P.d.length c1) (.slice a2 P.p.length c2) (.slice a3 P.o.length c3)):=HK0.out _ _ HO1.out ok;clear ok HO1 g0 g1 g2 g3 g4 g5 g6 g7;obtain ⟨g0,g1,g2,g3,g4,g5,g6,g7⟩:=HO2.out.2)
                  |(have _h:=HO2;go_at_call 87;refine (H1.out _ (HO2.out.1)).mono ?_;rintro e y3 ⟨rfl,ok⟩;have HO3:Hid ((Below w.heap.size w y3)∧BxP y3 w.heap.size P.nm P.a P.b P.c (.slice a1 P.d.length c1) (.slice a2 P.p.length c2) (.slice a3 P.o.length c3)):=HK0.out _ _ HO2.out ok;clear ok HO2 g0 g1 g2 g3 g4 g5 g6 g7;obtain ⟨g0,g1,g2,g3,g4,g5,g6,g7⟩:=HO3.out.2)
                  |(have _h:=HO3;go_at_call 87;refine (H2.out _ (HO3.out.1)).mono ?_;rintro e y4 ⟨rfl,ok⟩;have HO4:Hid ((Below w.heap.size w y4)∧BxP y4 w.heap.size P.nm P.a P.b P.c (.slice a1 P.d.length c1) (.slice a2 P.p.length c2) (.slice a3 P.o.length c3)):=HK0.out _ _ HO3.out ok;clear ok HO3 g0 g1 g2 g3 g4 g5 g6 g7;obtain ⟨g0,g1,g2,g3,g4,g5,g6,g7⟩:=HO4.out.2)
                  |(have _h:=HO4;go_at_call 87;refine (H3.out _ (HO4.out.1)).mono ?_;rintro e y5 ⟨rfl,ok⟩;have HO5:Hid ((Below w.heap.size w y5)∧BxP y5 w.heap.size P.nm P.a P.b P.c (.slice a1 P.d.length c1) (.slice a2 P.p.length c2) (.slice a3 P.o.length c3)):=HK0.out _ _ HO4.out ok;clear ok HO4 g0 g1 g2 g3 g4 g5 g6 g7;obtain ⟨g0,g1,g2,g3,g4,g5,g6,g7⟩:=HO5.out.2)
                  |(have _h:=HO5;go_at_call 88;refine (B12.out _ (HO5.out.1)).mono ?_;rintro e y6 ⟨rfl,ok⟩;have HO6:Hid ((Below w.heap.size w y6)∧BxP y6 w.heap.size P.nm P.a P.b P.c (.slice a1 P.d.length c1) (.slice a2 P.p.length c2) (.slice a3 P.o.length c3)):=HK0.out _ _ HO5.out ok;clear ok HO5 g0 g1 g2 g3 g4 g5 g6 g7;obtain ⟨g0,g1,g2,g3,g4,g5,g6,g7⟩:=HO6.out.2)
                  |(have _h:=HO6;go_at_call 88;refine (B13.out _ (HO6.out.1)).mono ?_;rintro e y7 ⟨rfl,ok⟩;have HO7:Hid ((Below w.heap.size w y7)∧BxP y7 w.heap.size P.nm P.a P.b P.c (.slice a1 P.d.length c1) (.slice a2 P.p.length c2) (.slice a3 P.o.length c3)):=HK0.out _ _ HO6.out ok;clear ok HO6 g0 g1 g2 g3 g4 g5 g6 g7;obtain ⟨g0,g1,g2,g3,g4,g5,g6,g7⟩:=HO7.out.2)
                  |(have _h:=HO7;go_at_call 88;refine (B23.out _ (HO7.out.1)).mono ?_;rintro e y8 ⟨rfl,ok⟩;have HO8:Hid ((Below w.heap.size w y8)∧BxP y8 w.heap.size P.nm P.a P.b P.c (.slice a1 P.d.length c1) (.slice a2 P.p.length c2) (.slice a3 P.o.length c3)):=HK0.out _ _ HO7.out ok;clear ok HO7 g0 g1 g2 g3 g4 g5 g6 g7;obtain ⟨g0,g1,g2,g3,g4,g5,g6,g7⟩:=HO8.out.2))
                 go_ret;exact ⟨aC HR.out.symm,HO8.out.1⟩
               · by_cases hlen:tl≤4096
                 · have hz1:decide ((TX.size:Int)≤4096)=true:=decide_eq_true (by have:=HZ.out;omega)
                   have HR:Hid (DB=true):=by unfold Hid;rw [HD.out];simp [hlen]
                   have hz2:(TX.size:Int)≤4096:=by have:=HZ.out;omega
                   have _:=hlen;have HK0:Hid (KeepP fun w1=>(Below w.heap.size w w1)∧BxP w1 w.heap.size P.nm P.a P.b P.c (.slice a1 P.d.length c1) (.slice a2 P.p.length c2) (.slice a3 P.o.length c3)):=(KeepP.and (aG w) (bF _ _ _ _ _ _ _ _));have HO0:Hid ((Below w.heap.size w (w.alloc (.cells #[.string P.nm,.int .i64 P.a,.int .i64 P.b,.int .i64 P.c,.slice a1 P.d.length c1,.slice a2 P.p.length c2,.slice a3 P.o.length c3] 34)))∧BxP (w.alloc (.cells #[.string P.nm,.int .i64 P.a,.int .i64 P.b,.int .i64 P.c,.slice a1 P.d.length c1,.slice a2 P.p.length c2,.slice a3 P.o.length c3] 34)) w.heap.size P.nm P.a P.b P.c (.slice a1 P.d.length c1) (.slice a2 P.p.length c2) (.slice a3 P.o.length c3)):=⟨aD _ _,BxP.new rfl _ _ _ _ _ _ _⟩;obtain ⟨g0,g1,g2,g3,g4,g5,g6,g7⟩:=HO0.out.2
                   go_enter Tryz.func45,Tryz.ntmps45
                   go_wp2_with (first
                    |(have _h:=HO0;go_at_call 85;refine (HN.out _ (HO0.out.1)).mono ?_;rintro e y1 ⟨rfl,ok⟩;have HO1:Hid ((Below w.heap.size w y1)∧BxP y1 w.heap.size P.nm P.a P.b P.c (.slice a1 P.d.length c1) (.slice a2 P.p.length c2) (.slice a3 P.o.length c3)):=HK0.out _ _ HO0.out ok;clear ok HO0 g0 g1 g2 g3 g4 g5 g6 g7;obtain ⟨g0,g1,g2,g3,g4,g5,g6,g7⟩:=HO1.out.2)
                    |(have _h:=HO1;go_at_call 86;refine (HV.out _ (HO1.out.1)).mono ?_;rintro e y2 ⟨rfl,ok⟩;have HO2:Hid ((Below w.heap.size w y2)∧BxP y2 w.heap.size P.nm P.a P.b P.c (.slice a1 P.d.length c1) (.slice a2 P.p.length c2) (.slice a3 P.o.length c3)):=HK0.out _ _ HO1.out ok;clear ok HO1 g0 g1 g2 g3 g4 g5 g6 g7;obtain ⟨g0,g1,g2,g3,g4,g5,g6,g7⟩:=HO2.out.2)
                    |(have _h:=HO2;go_at_call 87;refine (H1.out _ (HO2.out.1)).mono ?_;rintro e y3 ⟨rfl,ok⟩;have HO3:Hid ((Below w.heap.size w y3)∧BxP y3 w.heap.size P.nm P.a P.b P.c (.slice a1 P.d.length c1) (.slice a2 P.p.length c2) (.slice a3 P.o.length c3)):=HK0.out _ _ HO2.out ok;clear ok HO2 g0 g1 g2 g3 g4 g5 g6 g7;obtain ⟨g0,g1,g2,g3,g4,g5,g6,g7⟩:=HO3.out.2)
                    |(have _h:=HO3;go_at_call 87;refine (H2.out _ (HO3.out.1)).mono ?_;rintro e y4 ⟨rfl,ok⟩;have HO4:Hid ((Below w.heap.size w y4)∧BxP y4 w.heap.size P.nm P.a P.b P.c (.slice a1 P.d.length c1) (.slice a2 P.p.length c2) (.slice a3 P.o.length c3)):=HK0.out _ _ HO3.out ok;clear ok HO3 g0 g1 g2 g3 g4 g5 g6 g7;obtain ⟨g0,g1,g2,g3,g4,g5,g6,g7⟩:=HO4.out.2)
                    |(have _h:=HO4;go_at_call 87;refine (H3.out _ (HO4.out.1)).mono ?_;rintro e y5 ⟨rfl,ok⟩;have HO5:Hid ((Below w.heap.size w y5)∧BxP y5 w.heap.size P.nm P.a P.b P.c (.slice a1 P.d.length c1) (.slice a2 P.p.length c2) (.slice a3 P.o.length c3)):=HK0.out _ _ HO4.out ok;clear ok HO4 g0 g1 g2 g3 g4 g5 g6 g7;obtain ⟨g0,g1,g2,g3,g4,g5,g6,g7⟩:=HO5.out.2)
                    |(have _h:=HO5;go_at_call 88;refine (B12.out _ (HO5.out.1)).mono ?_;rintro e y6 ⟨rfl,ok⟩;have HO6:Hid ((Below w.heap.size w y6)∧BxP y6 w.heap.size P.nm P.a P.b P.c (.slice a1 P.d.length c1) (.slice a2 P.p.length c2) (.slice a3 P.o.length c3)):=HK0.out _ _ HO5.out ok;clear ok HO5 g0 g1 g2 g3 g4 g5 g6 g7;obtain ⟨g0,g1,g2,g3,g4,g5,g6,g7⟩:=HO6.out.2)
                    |(have _h:=HO6;go_at_call 88;refine (B13.out _ (HO6.out.1)).mono ?_;rintro e y7 ⟨rfl,ok⟩;have HO7:Hid ((Below w.heap.size w y7)∧BxP y7 w.heap.size P.nm P.a P.b P.c (.slice a1 P.d.length c1) (.slice a2 P.p.length c2) (.slice a3 P.o.length c3)):=HK0.out _ _ HO6.out ok;clear ok HO6 g0 g1 g2 g3 g4 g5 g6 g7;obtain ⟨g0,g1,g2,g3,g4,g5,g6,g7⟩:=HO7.out.2)
                    |(have _h:=HO7;go_at_call 88;refine (B23.out _ (HO7.out.1)).mono ?_;rintro e y8 ⟨rfl,ok⟩;have HO8:Hid ((Below w.heap.size w y8)∧BxP y8 w.heap.size P.nm P.a P.b P.c (.slice a1 P.d.length c1) (.slice a2 P.p.length c2) (.slice a3 P.o.length c3)):=HK0.out _ _ HO7.out ok;clear ok HO7 g0 g1 g2 g3 g4 g5 g6 g7;obtain ⟨g0,g1,g2,g3,g4,g5,g6,g7⟩:=HO8.out.2)
                    |(have _h:=HO8;go_at_call 89;refine (BT.out _ (HO8.out.1)).mono ?_;rintro e y9 ⟨rfl,ok⟩;have HO9:Hid ((Below w.heap.size w y9)∧BxP y9 w.heap.size P.nm P.a P.b P.c (.slice a1 P.d.length c1) (.slice a2 P.p.length c2) (.slice a3 P.o.length c3)):=HK0.out _ _ HO8.out ok;clear ok HO8 g0 g1 g2 g3 g4 g5 g6 g7;obtain ⟨g0,g1,g2,g3,g4,g5,g6,g7⟩:=HO9.out.2))
                   go_ret;exact ⟨aC HR.out.symm,HO9.out.1⟩
                 · have hz1:decide ((TX.size:Int)≤4096)=false:=decide_eq_false (by have:=HZ.out;omega)
                   have HR:Hid (DB=false):=by unfold Hid;rw [HD.out];simp [hlen]
                   have _:=hlen;have HK0:Hid (KeepP fun w1=>(Below w.heap.size w w1)∧BxP w1 w.heap.size P.nm P.a P.b P.c (.slice a1 P.d.length c1) (.slice a2 P.p.length c2) (.slice a3 P.o.length c3)):=(KeepP.and (aG w) (bF _ _ _ _ _ _ _ _));have HO0:Hid ((Below w.heap.size w (w.alloc (.cells #[.string P.nm,.int .i64 P.a,.int .i64 P.b,.int .i64 P.c,.slice a1 P.d.length c1,.slice a2 P.p.length c2,.slice a3 P.o.length c3] 34)))∧BxP (w.alloc (.cells #[.string P.nm,.int .i64 P.a,.int .i64 P.b,.int .i64 P.c,.slice a1 P.d.length c1,.slice a2 P.p.length c2,.slice a3 P.o.length c3] 34)) w.heap.size P.nm P.a P.b P.c (.slice a1 P.d.length c1) (.slice a2 P.p.length c2) (.slice a3 P.o.length c3)):=⟨aD _ _,BxP.new rfl _ _ _ _ _ _ _⟩;obtain ⟨g0,g1,g2,g3,g4,g5,g6,g7⟩:=HO0.out.2
                   go_enter Tryz.func45,Tryz.ntmps45
                   go_wp2_with (first
                    |(have _h:=HO0;go_at_call 85;refine (HN.out _ (HO0.out.1)).mono ?_;rintro e y1 ⟨rfl,ok⟩;have HO1:Hid ((Below w.heap.size w y1)∧BxP y1 w.heap.size P.nm P.a P.b P.c (.slice a1 P.d.length c1) (.slice a2 P.p.length c2) (.slice a3 P.o.length c3)):=HK0.out _ _ HO0.out ok;clear ok HO0 g0 g1 g2 g3 g4 g5 g6 g7;obtain ⟨g0,g1,g2,g3,g4,g5,g6,g7⟩:=HO1.out.2)
                    |(have _h:=HO1;go_at_call 86;refine (HV.out _ (HO1.out.1)).mono ?_;rintro e y2 ⟨rfl,ok⟩;have HO2:Hid ((Below w.heap.size w y2)∧BxP y2 w.heap.size P.nm P.a P.b P.c (.slice a1 P.d.length c1) (.slice a2 P.p.length c2) (.slice a3 P.o.length c3)):=HK0.out _ _ HO1.out ok;clear ok HO1 g0 g1 g2 g3 g4 g5 g6 g7;obtain ⟨g0,g1,g2,g3,g4,g5,g6,g7⟩:=HO2.out.2)
                    |(have _h:=HO2;go_at_call 87;refine (H1.out _ (HO2.out.1)).mono ?_;rintro e y3 ⟨rfl,ok⟩;have HO3:Hid ((Below w.heap.size w y3)∧BxP y3 w.heap.size P.nm P.a P.b P.c (.slice a1 P.d.length c1) (.slice a2 P.p.length c2) (.slice a3 P.o.length c3)):=HK0.out _ _ HO2.out ok;clear ok HO2 g0 g1 g2 g3 g4 g5 g6 g7;obtain ⟨g0,g1,g2,g3,g4,g5,g6,g7⟩:=HO3.out.2)
                    |(have _h:=HO3;go_at_call 87;refine (H2.out _ (HO3.out.1)).mono ?_;rintro e y4 ⟨rfl,ok⟩;have HO4:Hid ((Below w.heap.size w y4)∧BxP y4 w.heap.size P.nm P.a P.b P.c (.slice a1 P.d.length c1) (.slice a2 P.p.length c2) (.slice a3 P.o.length c3)):=HK0.out _ _ HO3.out ok;clear ok HO3 g0 g1 g2 g3 g4 g5 g6 g7;obtain ⟨g0,g1,g2,g3,g4,g5,g6,g7⟩:=HO4.out.2)
                    |(have _h:=HO4;go_at_call 87;refine (H3.out _ (HO4.out.1)).mono ?_;rintro e y5 ⟨rfl,ok⟩;have HO5:Hid ((Below w.heap.size w y5)∧BxP y5 w.heap.size P.nm P.a P.b P.c (.slice a1 P.d.length c1) (.slice a2 P.p.length c2) (.slice a3 P.o.length c3)):=HK0.out _ _ HO4.out ok;clear ok HO4 g0 g1 g2 g3 g4 g5 g6 g7;obtain ⟨g0,g1,g2,g3,g4,g5,g6,g7⟩:=HO5.out.2)
                    |(have _h:=HO5;go_at_call 88;refine (B12.out _ (HO5.out.1)).mono ?_;rintro e y6 ⟨rfl,ok⟩;have HO6:Hid ((Below w.heap.size w y6)∧BxP y6 w.heap.size P.nm P.a P.b P.c (.slice a1 P.d.length c1) (.slice a2 P.p.length c2) (.slice a3 P.o.length c3)):=HK0.out _ _ HO5.out ok;clear ok HO5 g0 g1 g2 g3 g4 g5 g6 g7;obtain ⟨g0,g1,g2,g3,g4,g5,g6,g7⟩:=HO6.out.2)
                    |(have _h:=HO6;go_at_call 88;refine (B13.out _ (HO6.out.1)).mono ?_;rintro e y7 ⟨rfl,ok⟩;have HO7:Hid ((Below w.heap.size w y7)∧BxP y7 w.heap.size P.nm P.a P.b P.c (.slice a1 P.d.length c1) (.slice a2 P.p.length c2) (.slice a3 P.o.length c3)):=HK0.out _ _ HO6.out ok;clear ok HO6 g0 g1 g2 g3 g4 g5 g6 g7;obtain ⟨g0,g1,g2,g3,g4,g5,g6,g7⟩:=HO7.out.2)
                    |(have _h:=HO7;go_at_call 88;refine (B23.out _ (HO7.out.1)).mono ?_;rintro e y8 ⟨rfl,ok⟩;have HO8:Hid ((Below w.heap.size w y8)∧BxP y8 w.heap.size P.nm P.a P.b P.c (.slice a1 P.d.length c1) (.slice a2 P.p.length c2) (.slice a3 P.o.length c3)):=HK0.out _ _ HO7.out ok;clear ok HO7 g0 g1 g2 g3 g4 g5 g6 g7;obtain ⟨g0,g1,g2,g3,g4,g5,g6,g7⟩:=HO8.out.2)
                    |(have _h:=HO8;go_at_call 89;refine (BT.out _ (HO8.out.1)).mono ?_;rintro e y9 ⟨rfl,ok⟩;have HO9:Hid ((Below w.heap.size w y9)∧BxP y9 w.heap.size P.nm P.a P.b P.c (.slice a1 P.d.length c1) (.slice a2 P.p.length c2) (.slice a3 P.o.length c3)):=HK0.out _ _ HO8.out ok;clear ok HO8 g0 g1 g2 g3 g4 g5 g6 g7;obtain ⟨g0,g1,g2,g3,g4,g5,g6,g7⟩:=HO9.out.2))
                   go_ret;exact ⟨aC HR.out.symm,HO9.out.1⟩
theorem xA:∀ l:List UInt8,Op.bytesLess l l=false
 |[]=>rfl
 |a::l=>by
  show (decide (a<a)||(a==a&&Op.bytesLess l l))=false;rw [xA l]
  simp
theorem nW:∀ {a b c:List UInt8},Op.bytesLess a b=true→Op.bytesLess b c=true→Op.bytesLess a c=true
 |_,[],_,h,_=>by cases ‹List UInt8› <;>simp [Op.bytesLess] at h
 |_,_::_,[],_,h=>by simp [Op.bytesLess] at h
 |[],_::_,_::_,_,_=>rfl
 |x::a,y::b,z::c,h1,h2=>by
  have e1:(decide (x<y)||(x==y&&Op.bytesLess a b))=true:=h1;have e2:(decide (y<z)||(y==z&&Op.bytesLess b c))=true:=h2;show (decide (x<z)||(x==z&&Op.bytesLess a c))=true;simp only [Bool.or_eq_true,decide_eq_true_eq,Bool.and_eq_true,beq_iff_eq] at e1 e2 ⊢
  rcases e1 with h|⟨rfl,h⟩
  · rcases e2 with k|⟨rfl,_⟩
    · exact Or.inl (UInt8.lt_trans h k)
    · exact Or.inl h
  · rcases e2 with k|⟨rfl,k⟩
    · exact Or.inl k
    · exact Or.inr ⟨rfl,nW h k⟩
theorem zC:∀ {L:List Dp} {p:ByteArray},bW (some p) L=true→∀ d ∈ L,ltS p d.nm=true
 |e::M,p,h,d,hd=>by
  rw [bW,Bool.and_eq_true,Bool.and_eq_true] at h
  have h1:ltS p e.nm=true:=by
   have:=h.1.1
   unfold bX at this;rw [Bool.and_eq_true] at this;exact this.2
  rcases List.mem_cons.1 hd with rfl|hd
  · exact h1
  · exact nW h1 (zC h.2 d hd)
theorem gG:∀ {L:List Dp} {q:Option ByteArray},bW q L=true→(L.map Dp.nm).Nodup
 |[],_,_=>List.nodup_nil
 |e::M,q,h=>by
  rw [bW,Bool.and_eq_true,Bool.and_eq_true] at h;rw [List.map_cons,List.nodup_cons];refine ⟨fun hm=> ?_,gG h.2⟩;obtain ⟨d,hd,he⟩:=List.mem_map.1 hm
  have:=zC h.2 d hd
  rw [he] at this;unfold ltS at this;rw [xA] at this;cases this
theorem lG {A B:List Dp}:bP A B=true↔∀ a ∈ A.map Dp.nm,∀ b ∈ B.map Dp.nm,a≠b:=by
 unfold bP;rw [List.all_eq_true]
 constructor
 · intro h a ha b hb
   obtain ⟨d,hd,rfl⟩:=List.mem_map.1 ha;obtain ⟨e,he,rfl⟩:=List.mem_map.1 hb
   have:=List.all_eq_true.1 (h d hd) e he
   intro hq;rw [hq] at this
   simp at this
 · intro h d hd
   refine List.all_eq_true.2 fun e he=> ?_
   have:=h _ (List.mem_map.2 ⟨d,hd,rfl⟩) _ (List.mem_map.2 ⟨e,he,rfl⟩)
   rw [Bool.not_eq_true',beq_eq_false_iff_ne];exact fun hq=>this (bO hq)
theorem xB {A B C:List Dp} (ha:bW none A=true) (hb:bW none B=true) (hc:bW none C=true):fG [A,B,C]=(bP A B&&(bP A C&&bP B C)):=by
 have e:eH [A,B,C]=A.map Dp.nm++(B.map Dp.nm++C.map Dp.nm):=by unfold eH;simp
 rw [Bool.eq_iff_iff,Bool.and_eq_true,Bool.and_eq_true,lG,lG,lG];unfold fG;rw [e];have hd: @decide ((A.map Dp.nm++(B.map Dp.nm++C.map Dp.nm)).Nodup) (Classical.propDecidable _)=true↔(A.map Dp.nm++(B.map Dp.nm++C.map Dp.nm)).Nodup:=⟨fun h=> @of_decide_eq_true _ (Classical.propDecidable _) h,fun h=> @decide_eq_true _ (Classical.propDecidable _) h⟩;rw [hd,List.nodup_append,List.nodup_append]
 constructor
 · rintro ⟨_,⟨_,_,h2⟩,h3⟩
   exact ⟨fun a ka b kb=>h3 a ka b (List.mem_append_left _ kb),fun a ka b kb=>h3 a ka b (List.mem_append_right _ kb),h2⟩
 · rintro ⟨h1,h2,h3⟩
   exact ⟨gG ha,⟨gG hb,gG hc,h3⟩,fun a ka b kb=>by
    rcases List.mem_append.1 kb with kb|kb
    · exact h1 a ka b kb
    · exact h2 a ka b kb⟩
theorem sD (P:Pg):FG P=aI P:=by
 unfold FG aI eV;cases hl:(aM P.d&&(aM P.p&&aM P.o))
 · simp
 · rw [Bool.and_eq_true,Bool.and_eq_true] at hl
   have r:∀ {L:List Dp},aM L=true→bW none L=true:=fun h=>by unfold aM at h;rw [Bool.and_eq_true] at h;exact h.2
   unfold pU;rw [xB (r hl.1) (r hl.2.1) (r hl.2.2)]
end Go.Proofs.YtpfemjlhklnfoaaGreatDoor
