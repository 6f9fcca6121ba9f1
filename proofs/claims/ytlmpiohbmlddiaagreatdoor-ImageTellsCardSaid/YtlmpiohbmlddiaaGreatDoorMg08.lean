/- Ps2, Pk8, Ps3: their declarations that are needed, laid in one text, remarks and blanks left out. -/
import Derived.Test.YtlmpiohbmlddiaaGreatDoorMg07
namespace Go.Proofs.YtlmpiohbmlddiaaGreatDoor
open Go.RowKit
set_option maxRecDepth 100000
theorem tC (s:ByteArray) (a b c:Int) (a1 a2 a3:Option Addr) (l1 l2 l3 c1 c2 c3:Nat) (w:World):
 Calls Tryz.prog 176 #[.agg #[.string s,.int .i64 a,.int .i64 b,.int .i64 c,.slice a1 l1 c1,.slice a2 l2 c2,.slice a3 l3 c3]] w fun e w'=>e= .returned (.agg #[.slice a1 l1 c1,.slice a2 l2 c2,.slice a3 l3 c3])∧Below w.heap.size w w':=by
 go_enter Tryz.func176,Tryz.ntmps176
 go_wp2
 try simp only [Exit.inBlock,Exit.then]
 refine bodyPost_ret (by simp [results,Tryz.results176,go_sem];try rfl) rfl ?_;exact ⟨rfl,aV _ _ _⟩
theorem xE (x y z:Value) (w:World):(Instr.index 225 (.agg #[x,y,z]) (.int .i64 0)).run Tryz.prog w= .ok x w:=by kernel_rfl
theorem xG (x y z:Value) (w:World):(Instr.index 225 (.agg #[x,y,z]) (.int .i64 1)).run Tryz.prog w= .ok y w:=by kernel_rfl
theorem xH (x y z:Value) (w:World):(Instr.index 225 (.agg #[x,y,z]) (.int .i64 2)).run Tryz.prog w= .ok z w:=by kernel_rfl
noncomputable def tD (P:Pg):Bool:=fJ [P.d,P.p,P.o]
theorem ST {w:World} {P:Pg} {v1 v2 v3:Value} (h:PgAt w P v1 v2 v3):uU (w.alloc (.cells #[v1,v2,v3] 22)) w.heap.size 0 [P.d,P.p,P.o]:=by
 refine ⟨by simp,fun k hk=> ?_⟩
 match k,hk with
 |0,_=>exact ⟨v1,by simp,h.1.below (aF _ _)⟩
 |1,_=>exact ⟨v2,by simp,h.2.1.below (aF _ _)⟩
 |2,_=>exact ⟨v3,by simp,h.2.2.below (aF _ _)⟩
theorem UJ {w:World} {P:Pg} {v1 v2 v3:Value} (h:PgAt w P v1 v2 v3) (h1:jP P.d) (h2:jP P.p) (h3:jP P.o):Calls Tryz.prog 198 #[.slice (some ⟨w.heap.size,0,none⟩) 3 3] (w.alloc (.cells #[v1,v2,v3] 22)) fun e w'=>e= .returned (.bool (tD P))∧Below (w.alloc (.cells #[v1,v2,v3] 22)).heap.size (w.alloc (.cells #[v1,v2,v3] 22)) w':=
 xB (Ls:=[P.d,P.p,P.o]) (ST h) (fun L hL=>by
  simp only [List.mem_cons,List.not_mem_nil,or_false] at hL
  rcases hL with rfl|rfl|rfl<;>assumption) (by simp)
noncomputable def iE (P:Pg):Bool:=Sc.aH P.nm.data.toList&&aU P.a P.b P.c&&(aO P.d&&(aO P.p&&aO P.o))&&tD P
set_option maxHeartbeats 3200000 in
theorem tE {P:Pg} {v1 v2 v3:Value} {w:World} (h:PgAt w P v1 v2 v3):
 Calls Tryz.prog 174 #[.agg #[.string P.nm,.int .i64 P.a,.int .i64 P.b,.int .i64 P.c,v1,v2,v3]] w fun e w'=>e= .returned (.bool (iE P))∧Below w.heap.size w w':=by
 have HN:Hid (∀ w1,Calls Tryz.prog 53 #[.string P.nm] w1 fun e w'=>e= .returned (.bool (Sc.aH P.nm.data.toList))∧w'=w1):=Sc.fI P.nm;have HV:Hid (∀ w1,Calls Tryz.prog 159 #[.agg #[.int .i64 P.a,.int .i64 P.b,.int .i64 P.c]] w1 fun e w'=>e= .returned (.bool (aU P.a P.b P.c))∧Below w1.heap.size w1 w'):=iW _ _ _;have HM1:Hid (∀ w1,Below w.heap.size w w1→Calls Tryz.prog 197 #[v1] w1 fun e w'=>e= .returned (.bool (aO P.d))∧Below w1.heap.size w1 w'):=fun w1 hb=>dV (h.1.below hb)
 have HM2:Hid (∀ w1,Below w.heap.size w w1→Calls Tryz.prog 197 #[v2] w1 fun e w'=>e= .returned (.bool (aO P.p))∧Below w1.heap.size w1 w'):=fun w1 hb=>dV (h.2.1.below hb)
 have HM3:Hid (∀ w1,Below w.heap.size w w1→Calls Tryz.prog 197 #[v3] w1 fun e w'=>e= .returned (.bool (aO P.o))∧Below w1.heap.size w1 w'):=fun w1 hb=>dV (h.2.2.below hb)
 have HEO:Hid (aO P.d=true→aO P.p=true→aO P.o=true→∀ w1,Below w.heap.size w w1→Calls Tryz.prog 198 #[.slice (some ⟨w1.heap.size,0,none⟩) 3 3] (w1.alloc (.cells #[v1,v2,v3] 22)) fun e w'=>e= .returned (.bool (tD P))∧Below (w1.alloc (.cells #[v1,v2,v3] 22)).heap.size (w1.alloc (.cells #[v1,v2,v3] 22)) w'):=fun h1 h2 h3 w1 hb=>UJ (h.below hb) (bK h1) (bK h2) (bK h3)
 have HSB:Hid (iE P=(Sc.aH P.nm.data.toList&&aU P.a P.b P.c&&(aO P.d&&(aO P.p&&aO P.o))&&tD P)):=rfl;obtain ⟨a1,c1,rfl⟩:=h.1.sl;obtain ⟨a2,c2,rfl⟩:=h.2.1.sl;obtain ⟨a3,c3,rfl⟩:=h.2.2.sl;have HLI:Hid (∀ w1,Calls Tryz.prog 176 #[.agg #[.string P.nm,.int .i64 P.a,.int .i64 P.b,.int .i64 P.c,.slice a1 P.d.length c1,.slice a2 P.p.length c2,.slice a3 P.o.length c3]] w1 fun e w'=>e= .returned (.agg #[.slice a1 P.d.length c1,.slice a2 P.p.length c2,.slice a3 P.o.length c3])∧Below w1.heap.size w1 w'):=tC _ _ _ _ _ _ _ _ _ _ _ _ _;clear h;generalize iE P=SB at*;generalize tD P=ob at*;generalize aO P.d=m1 at*;generalize aO P.p=m2 at*;generalize aO P.o=m3 at*;generalize Sc.aH P.nm.data.toList=nb at*;generalize aU P.a P.b P.c=vb at*;generalize P.d.length=l1 at*;generalize P.p.length=l2 at*;generalize P.o.length=l3 at*;generalize P.nm=s at*;generalize P.a=a at*;generalize P.b=b at*
 generalize P.c=c at*;have HBX:Hid (BxP (w.alloc (.cells #[.string s,.int .i64 a,.int .i64 b,.int .i64 c,.slice a1 l1 c1,.slice a2 l2 c2,.slice a3 l3 c3] 54)) w.heap.size s a b c (.slice a1 l1 c1) (.slice a2 l2 c2) (.slice a3 l3 c3)):=BxP.new rfl _ _ _ _ _ _ _;have HKB:Hid (KeepP fun w1=>BxP w1 w.heap.size s a b c (.slice a1 l1 c1) (.slice a2 l2 c2) (.slice a3 l3 c3)):=bZ _ _ _ _ _ _ _ _;have ix0:=xE;have ix1:=xG;have ix2:=xH;cases nb
 · have HR:Hid (SB=false):=by unfold Hid;rw [HSB.out];rfl
   go_enter Tryz.func174,Tryz.ntmps174
   go_wp2_with (go_at_call 53;refine (HN.out _).mono ?_;rintro e w1 ⟨rfl,rfl⟩)
   go_ret;exact ⟨aC HR.out.symm,aF _ _⟩
 · cases vb
   · have HR:Hid (SB=false):=by unfold Hid;rw [HSB.out];rfl
     go_enter Tryz.func174,Tryz.ntmps174
     go_wp2_with (first
      |(go_at_call 53;refine (HN.out _).mono ?_;rintro e w1 ⟨rfl,rfl⟩)
      |(go_at_call 159;refine (HV.out _).mono ?_;rintro e w2 ⟨rfl,ok⟩;have HO2:=aA (aB (aF _ _) ok);clear ok))
     go_ret;exact ⟨aC HR.out.symm,HO2.out⟩
   · go_enter Tryz.func174,Tryz.ntmps174
     go_wp2_with (first
      |(go_at_call 53;refine (HN.out _).mono ?_;rintro e w1 ⟨rfl,rfl⟩)
      |(go_at_call 159;refine (HV.out _).mono ?_;rintro e w2 ⟨rfl,ok⟩;have HO2:=aA (aB (aF _ _) ok);have HB2:=aA (HKB.out _ _ HBX.out ok);obtain ⟨k0,k1,k2,k3,k4,k5,k6,k7⟩:=HB2.out;clear ok)
      |(go_at_call 176;refine (HLI.out _).mono ?_;rintro e w3 ⟨rfl,ok⟩;have HO3:Hid (Below w.heap.size w w3∧BxP w3 w.heap.size s a b c (.slice a1 l1 c1) (.slice a2 l2 c2) (.slice a3 l3 c3)):=⟨aB HO2.out ok,HKB.out _ _ HB2.out ok⟩;clear ok))
     clear k0 k1 k2 k3 k4 k5 k6 k7
     go_loopw [17] (fun i wr=>∃ k:Nat,k≤3∧i= .int .i64 k∧(Below w.heap.size w wr∧BxP wr w.heap.size s a b c (.slice a1 l1 c1) (.slice a2 l2 c2) (.slice a3 l3 c3))∧(1≤k→m1=true)∧(2≤k→m2=true)∧(3≤k→m3=true)) (fun i _=>3 - (intOf i).toNat)
     case atStart=>exact ⟨0,Nat.zero_le _,rfl,HO3.out,(fun h=>by omega),(fun h=>by omega),(fun h=>by omega)⟩
     case round=>
      obtain ⟨k,hk,rfl,hb,e1,e2,e3⟩:=hrel;have HB:=aA hb
      rcases (show k=0∨k=1∨k=2∨k=3 by omega) with rfl|rfl|rfl|rfl
      · clear hb e1 e2 e3
        cases m1
        · have HR:Hid (SB=false):=by unfold Hid;rw [HSB.out];simp
          go_wp2_with (go_at_call 197;refine (HM1.out _ HB.out.1).mono ?_;rintro e w4 ⟨rfl,ok⟩;have HO4:=aA (aB HB.out.1 ok);clear ok)
          go_ret;exact ⟨aC HR.out.symm,HO4.out⟩
        · go_wp2_with (go_at_call 197;refine (HM1.out _ HB.out.1).mono ?_;rintro e w4 ⟨rfl,ok⟩;have HO4:Hid (Below w.heap.size w w4∧BxP w4 w.heap.size s a b c (.slice a1 l1 c1) (.slice a2 l2 c2) (.slice a3 l3 c3)):=⟨aB HB.out.1 ok,HKB.out _ _ HB.out.2 ok⟩;clear ok)
          exact ⟨⟨1,by omega,rfl,HO4.out,(fun _=>trivial),(fun h=>by omega),(fun h=>by omega)⟩,by simp [intOf]⟩
      · have e1':=e1 (by omega)
        subst e1';clear hb e1 e2 e3;cases m2
        · have HR:Hid (SB=false):=by unfold Hid;rw [HSB.out];simp
          go_wp2_with (go_at_call 197;refine (HM2.out _ HB.out.1).mono ?_;rintro e w4 ⟨rfl,ok⟩;have HO4:=aA (aB HB.out.1 ok);clear ok)
          go_ret;exact ⟨aC HR.out.symm,HO4.out⟩
        · go_wp2_with (go_at_call 197;refine (HM2.out _ HB.out.1).mono ?_;rintro e w4 ⟨rfl,ok⟩;have HO4:Hid (Below w.heap.size w w4∧BxP w4 w.heap.size s a b c (.slice a1 l1 c1) (.slice a2 l2 c2) (.slice a3 l3 c3)):=⟨aB HB.out.1 ok,HKB.out _ _ HB.out.2 ok⟩;clear ok)
          exact ⟨⟨2,by omega,rfl,HO4.out,(fun _=>trivial),(fun _=>trivial),(fun h=>by omega)⟩,by simp [intOf]⟩
      · have e1':=e1 (by omega)
        have e2':=e2 (by omega);subst e1' e2';clear hb e1 e2 e3;cases m3
        · have HR:Hid (SB=false):=by unfold Hid;rw [HSB.out];simp
          go_wp2_with (go_at_call 197;refine (HM3.out _ HB.out.1).mono ?_;rintro e w4 ⟨rfl,ok⟩;have HO4:=aA (aB HB.out.1 ok);clear ok)
          go_ret;exact ⟨aC HR.out.symm,HO4.out⟩
        · go_wp2_with (go_at_call 197;refine (HM3.out _ HB.out.1).mono ?_;rintro e w4 ⟨rfl,ok⟩;have HO4:Hid (Below w.heap.size w w4∧BxP w4 w.heap.size s a b c (.slice a1 l1 c1) (.slice a2 l2 c2) (.slice a3 l3 c3)):=⟨aB HB.out.1 ok,HKB.out _ _ HB.out.2 ok⟩;clear ok)
          exact ⟨⟨3,by omega,rfl,HO4.out,(fun _=>trivial),(fun _=>trivial),(fun _=>trivial)⟩,by simp [intOf]⟩
      · have e1':=e1 (by omega)
        have e2':=e2 (by omega);have e3':=e3 (by omega);subst e1' e2' e3';have HR:Hid (SB=ob):=by unfold Hid;rw [HSB.out];simp
        have HEW:=aA (HEO.out rfl rfl rfl);obtain ⟨k0,k1,k2,k3,k4,k5,k6,k7⟩:=HB.out.2;clear hb e1 e2 e3
        go_wp2_with (go_at_call 198;refine (HEW.out _ HB.out.1).mono ?_;rintro e w4 ⟨rfl,ok⟩;have HO4:=aA (aB (aB HB.out.1 (aF _ _)) ok);clear ok)
        go_ret;exact ⟨aC HR.out.symm,HO4.out⟩
set_option maxHeartbeats 6400000 in
theorem tF {w1 wz:World} {l:Sc.Bs} {v:Value} {L:List Dp} {x:ByteArray} (h:TW w1 l wz) (hd:DepsAt w1 v L) (hm:aO L=true) (he:Env w1) (hf:FL w1) (hx:x.size≤16) (hl:l.length≤1000000):
 Calls Tryz.prog 157 #[.pointer (some ⟨w1.heap.size,0,none⟩),.string x,v] wz fun e w'=>e= .returned (.tuple #[])∧TW w1 (l++aY x L) w'∧FarB w1.heap.size wz w':=by
 have HD:Hid (∀ w',Below w1.heap.size w1 w'→DepsAt w' v L):=fun w' hb=>hd.below hb
 have HSP:Hid (∀ w2 u (R:List Sp),Below w1.heap.size w1 w2→cG R=true→SpansC w2 u R→Calls Tryz.prog 199 #[u] w2 fun e w'=>e= .returned (.string (prS R))∧Below w2.heap.size w2 w'):=fun w2 u R hb hr hu=>IQ hr hu (he.below hb) (hf.below hb)
 have HAll:Hid (∀ d ∈ L,d.nm.size≤16∧cG d.rg=true):=by
  have:=hm
  unfold aO at this;rw [Bool.and_eq_true] at this;exact mE this.2
 have HLN:=aA (cO hx hm);have h16:=(bK hm).1
 have HPU:Hid (∀ (l1:Sc.Bs) w2 (s:ByteArray) (N:Nat) (bx:Obj),(TW w1 l1 w2∧FarB w1.heap.size wz w2)∧(w2.heap[N]? =some bx∧(∃ cs,bx= .cells cs 170 (0,0))∧w1.heap.size<N)→l1.length≤2000000→s.size≤1000000→Calls Tryz.prog 54 #[.pointer (some ⟨w1.heap.size,0,none⟩),.string s] w2 fun e w'=>e= .returned (.tuple #[.int .i64 s.size,.nilIface])∧(TW w1 (l1++s.data.toList) w'∧FarB w1.heap.size wz w')∧(w'.heap[N]? =some bx∧(∃ cs,bx= .cells cs 170 (0,0))∧w1.heap.size<N)):=fun l1 w2 s N bx h1 h2 h3=>by
  refine (h1.1.1.put s (by omega) h3).mono ?_;rintro e w' ⟨rfl,g1,g2⟩;obtain ⟨cs,rfl⟩:=h1.2.2.1;exact ⟨rfl,⟨g1,h1.1.2.trans g2⟩,g2 _ _ _ _ h1.2.1 (by decide) (by have:=h1.2.2.2;omega),⟨cs,rfl⟩,h1.2.2.2⟩
 have HT0:Hid (TW w1 l wz∧FarB w1.heap.size wz wz):=⟨h,FarB.refl _ _⟩;obtain ⟨ad,cap,rfl,hcp⟩:=hd.len;clear hd hm he hf h
 go_enter Tryz.func157,Tryz.ntmps157
 go_wp2_with fail
 go_loopw [10] (fun j wq=>∃ m:Nat,m≤L.length∧j= .int .i64 m∧TW w1 (l++aY x (L.take m)) wq∧FarB w1.heap.size wz wq) (fun j _=>L.length - (intOf j).toNat)
 case atStart=>exact ⟨0,Nat.zero_le _,rfl,by have:=HT0.out;simpa [aY] using this⟩
 case round=>
  clear HT0;obtain ⟨m,hm,rfl,htq⟩:=hrel;have HTQ:=aA htq
  by_cases hlt:m<L.length
  · obtain ⟨ad',cap',e,_,hcs⟩:=HD.out wr htq.1.2
    cases e
    obtain ⟨g,o,rfl,hg,hcs⟩:∃ g o,ad=some ⟨g,o,none⟩∧g<wr.heap.size∧∀ i (h:i<L.length),∃ u,DpIn wr g (o+i*2) L[i] u:=by
     rcases hcs with h|h
     · rw [h] at hlt;simp at hlt
     · exact h
    obtain ⟨u,p0,p1,⟨hu,_⟩,p3⟩:=hcs m hlt;obtain ⟨au,cu,rfl⟩:=hu.1.sl;obtain ⟨hnz2,hrb⟩:=HAll.out _ (List.getElem_mem hlt);have hpz:=qA hrb;have HSN:=aA (qB (x:=x) hlt)
    have hpl:(l++aY x (L.take m)).length≤1100000:=by
     have h1:=HLN.out m;rw [List.length_append];omega
    have HUS:Hid (SpansC (wr.alloc (.cells #[.string L[m].nm,.slice au L[m].rg.length cu] 170)) (.slice au L[m].rg.length cu) L[m].rg):=⟨hu.1.below (aF _ _),hu.2⟩;have HUB:Hid (g<wr.heap.size):=hg;have HSPd:=aA (fun w' (hb:Below w1.heap.size w1 w') (hc:SpansC w' (.slice au L[m].rg.length cu) L[m].rg)=>HSP.out w' _ _ hb hrb hc)
    have HO0:Hid ((TW w1 (l++aY x (L.take m)) (wr.alloc (.cells #[.string L[m].nm,.slice au L[m].rg.length cu] 170))∧FarB w1.heap.size wz (wr.alloc (.cells #[.string L[m].nm,.slice au L[m].rg.length cu] 170)))∧((wr.alloc (.cells #[.string L[m].nm,.slice au L[m].rg.length cu] 170)).heap[wr.heap.size]? =some (.cells #[.string L[m].nm,.slice au L[m].rg.length cu] 170 (0,0))∧(∃ cs,(Obj.cells #[.string L[m].nm,.slice au L[m].rg.length cu] 170 (0,0))= .cells cs 170 (0,0))∧w1.heap.size<wr.heap.size)):=by
     refine ⟨⟨gV _ _ _ _ htq.1 (aF _ _),htq.2.trans (FarB.below (aF _ _))⟩,?_,⟨_,rfl⟩,htq.1.far⟩;show (wr.heap.push _)[wr.heap.size]? =_;rw [Array.getElem?_push,if_pos rfl]
    have HUK:Hid (KeepP fun w'=>SpansC w' (.slice au L[m].rg.length cu) L[m].rg):=fun _ _ h hb=>⟨h.1.below hb,h.2⟩
    have HUW:Hid (∀ w',Below w1.heap.size w1 w'→SpansC w' (.slice au L[m].rg.length cu) L[m].rg):=fun w' hb=>by
     obtain ⟨ad2,cap2,e2,_,hcs2⟩:=HD.out w' hb;cases e2
     rcases hcs2 with h2|⟨g2,o2,e3,hg2,hcs2⟩
     · rw [h2] at hlt;simp at hlt
     · cases e3
       obtain ⟨u2,q0,q1,⟨hu2,_⟩,q3⟩:=hcs2 m hlt;obtain ⟨ad3,cap3,e4,_,hcs3⟩:=HD.out w1 (Below.refl _ _);cases e4
       rcases hcs3 with h4|⟨g4,o4,e5,hg4,hcs4⟩
       · rw [h4] at hlt;simp at hlt
       · cases e5
         obtain ⟨u5,r0,r1,_,_⟩:=hcs4 m hlt;have t1:=(hb.cell (p:=⟨g,o+m*2+1,none⟩) hg4).trans r1;have t2:=(HTQ.out.1.2.cell (p:=⟨g,o+m*2+1,none⟩) hg4).trans r1;rw [q1] at t1;rw [p1] at t2;cases t1;cases t2;exact hu2
    clear hcs hu htq;generalize prS L[m].rg=rt at*;generalize L[m].rg.length=lu at*;generalize L[m].nm=s at*;generalize hlm:l++aY x (L.take m)=lm at*;have HLM:=aA hlm;clear hlm;have l1:(lm++x.data.toList).length≤1100016:=by rw [List.length_append,aK];omega
    have l2:(lm++x.data.toList++[32]).length≤1100017:=by rw [List.length_append];simp at l1 ⊢;omega
    have l3:(lm++x.data.toList++[32]++s.data.toList).length≤1100033:=by rw [List.length_append,aK];omega
    have l4:(lm++x.data.toList++[32]++s.data.toList++[32]).length≤1100034:=by rw [List.length_append];simp at l3 ⊢;omega
    have l5:(lm++x.data.toList++[32]++s.data.toList++[32]++rt.data.toList).length≤1200000:=by rw [List.length_append,aK];omega
    go_wp2_with (first
     |(have _h:=HO0;go_at_call 54;refine (HPU.out _ _ x _ _ HO0.out (by omega) (by omega)).mono ?_;rintro e w2 ⟨rfl,ok⟩;have HO1:=aA ok;clear ok HO0)
     |(have _h:=HO1;go_at_call 54;refine (HPU.out _ _ ⟨#[32]⟩ _ _ HO1.out (Nat.le_trans l1 (by decide)) (by decide)).mono ?_;rintro e w3 ⟨rfl,ok⟩;have HO2:=aA ok;clear ok HO1;have d0:w3.cell? ⟨wr.heap.size,0,none⟩=some (.string s):=(by rw [Lib.cell_of_heap HO2.out.2.1];rfl))
     |(have _h:=HO2;go_at_call 54;refine (HPU.out _ _ s _ _ HO2.out (Nat.le_trans l2 (by decide)) (by omega)).mono ?_;rintro e w4 ⟨rfl,ok⟩;have HO3:=aA ok;clear ok HO2 d0)
     |(have _h:=HO3;go_at_call 54;refine (HPU.out _ _ ⟨#[32]⟩ _ _ HO3.out (Nat.le_trans l3 (by decide)) (by decide)).mono ?_;rintro e w5 ⟨rfl,ok⟩;have HO4:=aA ok;clear ok HO3;have d1:w5.cell? ⟨wr.heap.size,1,none⟩=some (.slice au lu cu):=(by rw [Lib.cell_of_heap HO4.out.2.1];rfl))
     |(have _h:=HO4;go_at_call 199;refine (HSPd.out _ HO4.out.1.1.2 (HUW.out _ HO4.out.1.1.2)).mono ?_;rintro e w6 ⟨rfl,ok⟩;have HO5:Hid ((TW w1 (lm++x.data.toList++[32]++s.data.toList++[32]) w6∧FarB w1.heap.size wz w6)∧(w6.heap[wr.heap.size]? =some (.cells #[.string s,.slice au lu cu] 170 (0,0))∧(∃ cs,(Obj.cells #[.string s,.slice au lu cu] 170 (0,0))= .cells cs 170 (0,0))∧w1.heap.size<wr.heap.size)):=⟨⟨gV _ _ _ _ HO4.out.1.1 ok,HO4.out.1.2.trans (FarB.below ok)⟩,(ok.block wr.heap.size (Array.getElem?_eq_some_iff.1 HO4.out.2.1).1).trans HO4.out.2.1,HO4.out.2.2⟩;clear ok HO4 d1)
     |(have _h:=HO5;go_at_call 54;refine (HPU.out _ _ rt _ _ HO5.out (Nat.le_trans l4 (by decide)) (by omega)).mono ?_;rintro e w7 ⟨rfl,ok⟩;have HO6:=aA ok;clear ok HO5)
     |(have _h:=HO6;go_at_call 54;refine (HPU.out _ _ ⟨#[10]⟩ _ _ HO6.out (Nat.le_trans l5 (by decide)) (by decide)).mono ?_;rintro e w8 ⟨rfl,ok⟩;have HO7:=aA ok;clear ok HO6))
    refine ⟨⟨m+1,by omega,by go_num,?_,HO7.out.1.2⟩,by simp [intOf];omega⟩;have e:l++aY x (L.take (m+1))=lm++x.data.toList++[32]++s.data.toList++[32]++rt.data.toList++[10]:=by rw [HSN.out,←HLM.out];unfold gU;simp
    rw [e];exact HO7.out.1.1
  · have HTN:Hid (TW w1 (l++aY x L) wr∧FarB w1.heap.size wz wr):=by
     have:=HTQ.out
     rw [List.take_of_length_le (by omega)] at this;exact this
    clear htq
    go_wp2
    go_end0
    exact ⟨rfl,HTN.out.1,HTN.out.2⟩
def lwK:Nat→ByteArray
 |0=>⟨#[110,101,101,100,115]⟩
 |1=>⟨#[98,101,115,105,100,101]⟩
 |_=>⟨#[108,105,107,101,115]⟩
theorem eH (k:Nat):(lwK k).size≤16:=by
 match k with
 |0|1=>decide
 |_+2=>show (⟨#[108,105,107,101,115]⟩:ByteArray).size≤16;decide
def eT (P:Pg):Sc.Bs:=gU ⟨#[112,97,99,107,97,103,101]⟩ P.nm (aS P.a P.b P.c)++(aY (lwK 0) P.d++(aY (lwK 1) P.p++aY (lwK 2) P.o))
noncomputable def aX (P:Pg):Bool:=iE P&&decide ((eT P).length≤4096)
noncomputable def aR (P:Pg):ByteArray:=if aX P=true then ⟨(eT P).toArray⟩ else ⟨#[]⟩
def nL:Obj:= .cells #[.string (lwK 0),.string (lwK 1),.string (lwK 2)] 9 (0,0)
theorem sG (w:World):Calls Tryz.prog 175 #[] w fun e w'=>e= .returned (.slice (some ⟨w.heap.size,0,none⟩) 3 3)∧w'=w.alloc (.cells #[.string (lwK 0),.string (lwK 1),.string (lwK 2)] 9):=by
 go_enter Tryz.func175,Tryz.ntmps175
 go_wp2
 go_ret;exact ⟨rfl,rfl⟩
theorem cJ (a b:ByteArray):(a++b).data.toList=a.data.toList++b.data.toList:=by simp
theorem bQ (a b:ByteArray):(a++b).size=a.size+b.size:=by simp
def jQ (P:Pg):Nat→Sc.Bs
 |0=>gU ⟨#[112,97,99,107,97,103,101]⟩ P.nm (aS P.a P.b P.c)
 |1=>gU ⟨#[112,97,99,107,97,103,101]⟩ P.nm (aS P.a P.b P.c)++aY (lwK 0) P.d
 |2=>gU ⟨#[112,97,99,107,97,103,101]⟩ P.nm (aS P.a P.b P.c)++aY (lwK 0) P.d++aY (lwK 1) P.p
 |_=>gU ⟨#[112,97,99,107,97,103,101]⟩ P.nm (aS P.a P.b P.c)++aY (lwK 0) P.d++aY (lwK 1) P.p++aY (lwK 2) P.o
theorem IV (P:Pg):jQ P 3=eT P:=by unfold jQ eT;simp
set_option maxHeartbeats 6400000 in
theorem sH {P:Pg} {v1 v2 v3:Value} {w:World} (h:PgAt w P v1 v2 v3) (he:Env w) (hf:FL w) (hsd:iE P=true):
 Calls Tryz.prog 128 #[.agg #[.string P.nm,.int .i64 P.a,.int .i64 P.b,.int .i64 P.c,v1,v2,v3]] w fun e w'=>e= .returned (.tuple #[.string (aR P),.bool (aX P)])∧Below w.heap.size w w':=by
 have HSO:Hid (∀ w1,Below w.heap.size w w1→Calls Tryz.prog 174 #[.agg #[.string P.nm,.int .i64 P.a,.int .i64 P.b,.int .i64 P.c,v1,v2,v3]] w1 fun e w'=>e= .returned (.bool true)∧Below w1.heap.size w1 w'):=fun w1 hb=>by have:=tE (h.below hb);rw [hsd] at this;exact this
 have hs:=hsd;unfold iE at hs;simp only [Bool.and_eq_true] at hs;obtain ⟨⟨⟨hnm,hmv⟩,hd,hp,ho⟩,_⟩:=hs;have hnz:P.nm.size≤16:=by unfold Sc.aH at hnm;rw [Bool.and_eq_true,decide_eq_true_eq,aK] at hnm;exact hnm.2
 have hvz:=cX P.a P.b P.c;have HPR:Hid (∀ w1,Below w.heap.size w w1→Calls Tryz.prog 125 #[.agg #[.int .i64 P.a,.int .i64 P.b,.int .i64 P.c]] w1 fun e w'=>e= .returned (.string (aS P.a P.b P.c))∧Below w1.heap.size w1 w'):=fun w1 hb=>mA he.tab _ _ _ w1 hb
 have HPG:Hid (∀ w1,Below w.heap.size w w1→PgAt w1 P v1 v2 v3):=fun w1 hb=>h.below hb
 have HMD:Hid (aO P.d=true∧aO P.p=true∧aO P.o=true):=⟨hd,hp,ho⟩;have HLN:Hid ((∀ k,(aY (lwK 0) (P.d.take k)).length≤80000)∧(∀ k,(aY (lwK 1) (P.p.take k)).length≤80000)∧(∀ k,(aY (lwK 2) (P.o.take k)).length≤80000)):=⟨cO (eH 0) hd,cO (eH 1) hp,cO (eH 2) ho⟩;have hll:(gU ⟨#[112,97,99,107,97,103,101]⟩ P.nm (aS P.a P.b P.c)).length≤5000:=xD (by decide) hnz (by omega);have HF0:=aA (HLN.out.1 P.d.length);have HF1:=aA (HLN.out.2.1 P.p.length);rw [List.take_length] at HF0 HF1;have HSZ:Hid ((P.d.length≤16∧P.p.length≤16)∧P.o.length≤16):=⟨⟨(bK hd).1,(bK hp).1⟩,(bK ho).1⟩;obtain ⟨⟨z1,z2⟩,z3⟩:=HSZ.out;have HWB:Hid (aX P=decide ((eT P).length≤4096)):=by unfold Hid aX;rw [hsd];rfl
 have HPT:=aA (IV P);obtain ⟨a1,c1,rfl,q1⟩:=h.1.len;obtain ⟨a2,c2,rfl,q2⟩:=h.2.1.len;obtain ⟨a3,c3,rfl,q3⟩:=h.2.2.len;have HLI:Hid (∀ w1,Calls Tryz.prog 176 #[.agg #[.string P.nm,.int .i64 P.a,.int .i64 P.b,.int .i64 P.c,.slice a1 P.d.length c1,.slice a2 P.p.length c2,.slice a3 P.o.length c3]] w1 fun e w'=>e= .returned (.agg #[.slice a1 P.d.length c1,.slice a2 P.p.length c2,.slice a3 P.o.length c3])∧Below w1.heap.size w1 w'):=tC _ _ _ _ _ _ _ _ _ _ _ _ _;have HLE:Hid (∀ w1 l w',TW w1 l w'→Calls Tryz.prog 158 #[.pointer (some ⟨w1.heap.size,0,none⟩)] w' fun e w2=>e= .returned (.int .i64 l.length)∧w2=w'):=fun w1 l w' h=>FD h.1
 have HST:Hid (∀ w1 l w',TW w1 l w'→Calls Tryz.prog 55 #[.pointer (some ⟨w1.heap.size,0,none⟩)] w' fun e w2=>e= .returned (.string ⟨l.toArray⟩)∧Below w1.heap.size w' w2):=fun w1 l w' h=>Tryz.Builder_String_any _ _ l w' h.1 h.2.size
 have HWR:Hid (∀ w1,Below w.heap.size w w1→∀ (l:Sc.Bs) wz (x:ByteArray) v L,TW w1 l wz→DepsAt w1 v L→aO L=true→x.size≤16→l.length≤1000000→Calls Tryz.prog 157 #[.pointer (some ⟨w1.heap.size,0,none⟩),.string x,v] wz fun e w'=>e= .returned (.tuple #[])∧TW w1 (l++aY x L) w'∧FarB w1.heap.size wz w'):=fun w1 hb l wz x v L h1 h2 h3 h4 h5=>tF h1 h2 h3 (he.below hb) (hf.below hb) h4 h5
 have HPU:Hid (∀ w1 (l:Sc.Bs) wz (s:ByteArray),TW w1 l wz→l.length≤1000000→s.size≤1000000→Calls Tryz.prog 54 #[.pointer (some ⟨w1.heap.size,0,none⟩),.string s] wz fun e w'=>e= .returned (.tuple #[.int .i64 s.size,.nilIface])∧TW w1 (l++s.data.toList) w'∧FarB w1.heap.size wz w'):=fun w1 l wz s h1 h2 h3=>h1.put s (by omega) h3
 have HHD:Hid ([]++(⟨#[112,97,99,107,97,103,101,32]⟩++P.nm++⟨#[32]⟩++aS P.a P.b P.c++⟨#[10]⟩:ByteArray).data.toList=jQ P 0∧(⟨#[112,97,99,107,97,103,101,32]⟩++P.nm++⟨#[32]⟩++aS P.a P.b P.c++⟨#[10]⟩:ByteArray).size≤1000000):=by
  refine ⟨by unfold jQ gU;simp,?_⟩;rw [bQ,bQ,bQ,bQ];have e1:(⟨#[112,97,99,107,97,103,101,32]⟩:ByteArray).size=8:=rfl;have e2:(⟨#[32]⟩:ByteArray).size=1:=rfl;have e3:(⟨#[10]⟩:ByteArray).size=1:=rfl;omega
 have ix0:=xE;have ix1:=xG;have ix2:=xH;clear h he hf hsd hnm hmv hd hp ho;have HBX:Hid (BxP (w.alloc (.cells #[.string P.nm,.int .i64 P.a,.int .i64 P.b,.int .i64 P.c,.slice a1 P.d.length c1,.slice a2 P.p.length c2,.slice a3 P.o.length c3] 54)) w.heap.size P.nm P.a P.b P.c (.slice a1 P.d.length c1) (.slice a2 P.p.length c2) (.slice a3 P.o.length c3)):=BxP.new rfl _ _ _ _ _ _ _;have HKB:Hid (KeepP fun w1=>BxP w1 w.heap.size P.nm P.a P.b P.c (.slice a1 P.d.length c1) (.slice a2 P.p.length c2) (.slice a3 P.o.length c3)):=bZ _ _ _ _ _ _ _ _
 go_enter Tryz.func128,Tryz.ntmps128
 go_wp2_with (go_at_call 174;refine (HSO.out _ (aF _ _)).mono ?_;rintro e w1 ⟨rfl,ok⟩;have HO1:Hid (Below w.heap.size w w1∧BxP w1 w.heap.size P.nm P.a P.b P.c (.slice a1 P.d.length c1) (.slice a2 P.p.length c2) (.slice a3 P.o.length c3)):=⟨aB (aF _ _) ok,HKB.out _ _ HBX.out ok⟩;clear ok HBX)
 have e1:=fun W:World=>run_string_add_sum (P:=Tryz.prog) (w:=W) ⟨#[112,97,99,107,97,103,101,32]⟩ P.nm (by rw [show (⟨#[112,97,99,107,97,103,101,32]⟩:ByteArray).size=8 from rfl];omega)
 have e2:=fun W:World=>run_string_add_sum (P:=Tryz.prog) (w:=W) (⟨#[112,97,99,107,97,103,101,32]⟩++P.nm) ⟨#[32]⟩ (by rw [bQ,show (⟨#[112,97,99,107,97,103,101,32]⟩:ByteArray).size=8 from rfl,show (⟨#[32]⟩:ByteArray).size=1 from rfl];omega)
 have e3:=fun W:World=>run_string_add_sum (P:=Tryz.prog) (w:=W) (⟨#[112,97,99,107,97,103,101,32]⟩++P.nm++⟨#[32]⟩) (aS P.a P.b P.c) (by rw [bQ,bQ,show (⟨#[112,97,99,107,97,103,101,32]⟩:ByteArray).size=8 from rfl,show (⟨#[32]⟩:ByteArray).size=1 from rfl];omega)
 have e4:=fun W:World=>run_string_add_sum (P:=Tryz.prog) (w:=W) (⟨#[112,97,99,107,97,103,101,32]⟩++P.nm++⟨#[32]⟩++aS P.a P.b P.c) ⟨#[10]⟩ (by rw [bQ,bQ,bQ,show (⟨#[112,97,99,107,97,103,101,32]⟩:ByteArray).size=8 from rfl,show (⟨#[32]⟩:ByteArray).size=1 from rfl,show (⟨#[10]⟩:ByteArray).size=1 from rfl];omega)
 have HT0:Hid (TW w1 [] (w1.alloc (.cells #[.pointer none,.slice none 0 0] 118))):=TW.new w1;have HBP:Hid (∀ w',Below w1.heap.size w1 w'→BxP w' w.heap.size P.nm P.a P.b P.c (.slice a1 P.d.length c1) (.slice a2 P.p.length c2) (.slice a3 P.o.length c3)):=fun w' hb=>HKB.out _ _ HO1.out.2 hb
 obtain ⟨k0,k1,k2,k3,k4,k5,k6,k7⟩:=HBP.out _ HT0.out.2
 go_region_held3 (fun w'=>w'.cell? ⟨w.heap.size,0,none⟩=some (.string P.nm)∧w'.cell? ⟨w.heap.size,1,none⟩=some (.int .i64 P.a)∧w'.cell? ⟨w.heap.size,2,none⟩=some (.int .i64 P.b)∧w'.cell? ⟨w.heap.size,3,none⟩=some (.int .i64 P.c)) (go_keep)
  (first
    |(have _h:=HT0;go_at_call 125;refine (HPR.out _ (aB HO1.out.1 (aF _ _).drew)).mono ?_;rintro e w2 ⟨rfl,ok⟩;have HT2:=aA (gV _ _ _ _ ((gV _ _).drew HT0.out) ok);clear ok HT0 k0 k1 k2 k3 k4 k5 k6 k7;obtain ⟨k0,k1,k2,k3,k4,k5,k6,k7⟩:=HBP.out _ HT2.out.2)
    |(have _h:=HT2;go_at_call 54;refine (HPU.out w1 [] _ _ HT2.out (by decide) HHD.out.2).mono ?_;rintro e w3 ⟨rfl,ok,_⟩;have HT3:Hid (TW w1 (jQ P 0) w3):=(by have h3:=ok;rw [HHD.out.1] at h3;exact h3);clear ok HT2 k0 k1 k2 k3 k4 k5 k6 k7;obtain ⟨k0,k1,k2,k3,k4,k5,k6,k7⟩:=HBP.out _ HT3.out.2))
 go_wp2_with (first
  |(go_at_call 175;refine (sG _).mono ?_;rintro e w3b ⟨rfl,hw3b⟩;have HT3b:Hid (TW w1 (jQ P 0) w3b∧w3b.heap[w3.heap.size]? =some nL∧w1.heap.size<w3.heap.size):=(by rw [hw3b];exact ⟨gV _ _ _ _ HT3.out (aF _ _),(by show (w3.heap.push _)[w3.heap.size]? =_;rw [Array.getElem?_push,if_pos rfl];rfl),HT3.out.far⟩);clear hw3b k0 k1 k2 k3 k4 k5 k6 k7;obtain ⟨k0,k1,k2,k3,k4,k5,k6,k7⟩:=HBP.out _ HT3b.out.1.2)
  |(go_at_call 176;refine (HLI.out _).mono ?_;rintro e w4 ⟨rfl,ok⟩;have HT4:Hid (TW w1 (jQ P 0) w4∧w4.heap[w3.heap.size]? =some nL∧w1.heap.size<w3.heap.size):=⟨gV _ _ _ _ HT3b.out.1 ok,(ok.block _ (Array.getElem?_eq_some_iff.1 HT3b.out.2.1).1).trans HT3b.out.2.1,HT3b.out.2.2⟩;clear ok HT3b))
 clear k0 k1 k2 k3 k4 k5 k6 k7
 go_loopw [24] (fun i wr=>∃ k:Nat,k≤3∧i= .int .i64 k∧TW w1 (jQ P k) wr∧wr.heap[w3.heap.size]? =some nL∧w1.heap.size<w3.heap.size) (fun i _=>3 - (intOf i).toNat)
 case atStart=>exact ⟨0,Nat.zero_le _,rfl,HT4.out⟩
 case round=>
  obtain ⟨k,hk,rfl,htw⟩:=hrel
  rcases (show k=0∨k=1∨k=2∨k=3 by omega) with rfl|rfl|rfl|rfl
  · have HTK:=aA htw
    clear htw;have g0:wr.cell? ⟨w3.heap.size,0,none⟩=some (.string (lwK 0)):=by rw [Lib.cell_of_heap HTK.out.2.1];rfl
    have hpl:(jQ P 0).length≤1000000:=by
     have h2:=HF0.out;have h3:=HF1.out;simp only [jQ] at*;omega
    go_wp2_with (go_at_call 157;refine (HWR.out w1 HO1.out.1 _ _ (lwK 0) _ P.d HTK.out.1 (HPG.out w1 HO1.out.1).1 HMD.out.1 (eH 0) hpl).mono ?_;rintro e w5 ⟨rfl,ok,far⟩;have HT5:Hid (TW w1 (jQ P (0+1)) w5∧w5.heap[w3.heap.size]? =some nL∧w1.heap.size<w3.heap.size):=⟨ok,far _ _ _ _ HTK.out.2.1 (by decide) (by have:=HTK.out.2.2;omega),HTK.out.2.2⟩;clear ok far)
    exact ⟨⟨0+1,by omega,rfl,HT5.out⟩,by simp [intOf]⟩
  · have HTK:=aA htw
    clear htw;have g0:wr.cell? ⟨w3.heap.size,1,none⟩=some (.string (lwK 1)):=by rw [Lib.cell_of_heap HTK.out.2.1];rfl
    have hpl:(jQ P 1).length≤1000000:=by
     have h2:=HF0.out;have h3:=HF1.out;simp only [jQ,List.length_append] at*;omega
    go_wp2_with (go_at_call 157;refine (HWR.out w1 HO1.out.1 _ _ (lwK 1) _ P.p HTK.out.1 (HPG.out w1 HO1.out.1).2.1 HMD.out.2.1 (eH 1) hpl).mono ?_;rintro e w5 ⟨rfl,ok,far⟩;have HT5:Hid (TW w1 (jQ P (1+1)) w5∧w5.heap[w3.heap.size]? =some nL∧w1.heap.size<w3.heap.size):=⟨ok,far _ _ _ _ HTK.out.2.1 (by decide) (by have:=HTK.out.2.2;omega),HTK.out.2.2⟩;clear ok far)
    exact ⟨⟨1+1,by omega,rfl,HT5.out⟩,by simp [intOf]⟩
  · have HTK:=aA htw
    clear htw;have g0:wr.cell? ⟨w3.heap.size,2,none⟩=some (.string (lwK 2)):=by rw [Lib.cell_of_heap HTK.out.2.1];rfl
    have hpl:(jQ P 2).length≤1000000:=by
     have h2:=HF0.out;have h3:=HF1.out;simp only [jQ,List.length_append] at*;omega
    go_wp2_with (go_at_call 157;refine (HWR.out w1 HO1.out.1 _ _ (lwK 2) _ P.o HTK.out.1 (HPG.out w1 HO1.out.1).2.2 HMD.out.2.2 (eH 2) hpl).mono ?_;rintro e w5 ⟨rfl,ok,far⟩;have HT5:Hid (TW w1 (jQ P (2+1)) w5∧w5.heap[w3.heap.size]? =some nL∧w1.heap.size<w3.heap.size):=⟨ok,far _ _ _ _ HTK.out.2.1 (by decide) (by have:=HTK.out.2.2;omega),HTK.out.2.2⟩;clear ok far)
    exact ⟨⟨2+1,by omega,rfl,HT5.out⟩,by simp [intOf]⟩
  · have HTE:=aA htw.1
    rw [HPT.out] at HTE;clear htw
    by_cases hlen:(eT P).length≤4096
    · have HR:Hid (aX P=true∧aR P=⟨(eT P).toArray⟩):=by
       have:aX P=true:=by rw [HWB.out];exact decide_eq_true hlen
       exact ⟨this,by unfold aR;rw [if_pos this]⟩
      go_wp2_with (first
       |(go_at_call 158;refine (HLE.out _ _ _ HTE.out).mono ?_;rintro e w5 ⟨rfl,rfl⟩)
       |(go_at_call 55;refine (HST.out _ _ _ HTE.out).mono ?_;rintro e w6 ⟨rfl,ok⟩;have HB6:=aA (aB HO1.out.1 (HTE.out.2.trans ok));clear ok))
      go_ret2;exact ⟨by rw [HR.out.1,HR.out.2];rfl,HB6.out⟩
    · have HR:Hid (aX P=false∧aR P=⟨#[]⟩):=by
       have:aX P=false:=by rw [HWB.out];exact decide_eq_false hlen
       exact ⟨this,by unfold aR;rw [if_neg (by rw [this];simp)]⟩
      go_wp2_with (go_at_call 158;refine (HLE.out _ _ _ HTE.out).mono ?_;rintro e w5 ⟨rfl,rfl⟩)
      go_ret2;exact ⟨by rw [HR.out.1,HR.out.2];rfl,aB HO1.out.1 HTE.out.2⟩
theorem oF {P:Pg} {v1 v2 v3:Value} {w:World} (h:PgAt w P v1 v2 v3) (he:Env w) (hf:FL w):
 Calls Tryz.prog 128 #[.agg #[.string P.nm,.int .i64 P.a,.int .i64 P.b,.int .i64 P.c,v1,v2,v3]] w fun e w'=>e= .returned (.tuple #[.string (aR P),.bool (aX P)])∧Below w.heap.size w w':=by
 cases hsd:iE P
 · have HSO:Hid (∀ w1,Below w.heap.size w w1→Calls Tryz.prog 174 #[.agg #[.string P.nm,.int .i64 P.a,.int .i64 P.b,.int .i64 P.c,v1,v2,v3]] w1 fun e w'=>e= .returned (.bool false)∧Below w1.heap.size w1 w'):=fun w1 hb=>by have:=tE (h.below hb);rw [hsd] at this;exact this
   have HR:Hid (aX P=false∧aR P=⟨#[]⟩):=by
    have:aX P=false:=by unfold aX;rw [hsd];rfl
    exact ⟨this,by unfold aR;rw [if_neg (by rw [this];simp)]⟩
   obtain ⟨a1,c1,rfl⟩:=h.1.sl;obtain ⟨a2,c2,rfl⟩:=h.2.1.sl;obtain ⟨a3,c3,rfl⟩:=h.2.2.sl;clear h he hf hsd
   go_enter Tryz.func128,Tryz.ntmps128
   go_wp2_with (go_at_call 174;refine (HSO.out _ (aF _ _)).mono ?_;rintro e w1 ⟨rfl,ok⟩;have HO1:=aA (aB (aF _ _) ok);clear ok)
   go_ret2;exact ⟨by rw [HR.out.1,HR.out.2];rfl,HO1.out⟩
 · exact sH h he hf hsd
theorem ML {P:Pg} {v1 v2 v3:Value} {w:World} (h:PgAt w P v1 v2 v3) (he:Env w) (hf:FL w):
 Calls Tryz.prog 188 #[.agg #[.string P.nm,.int .i64 P.a,.int .i64 P.b,.int .i64 P.c,v1,v2,v3]] w fun e w'=>e= .returned (.bool (aX P))∧Below w.heap.size w w':=by
 have HW:Hid (∀ w1,Below w.heap.size w w1→Calls Tryz.prog 128 #[.agg #[.string P.nm,.int .i64 P.a,.int .i64 P.b,.int .i64 P.c,v1,v2,v3]] w1 fun e w'=>e= .returned (.tuple #[.string (aR P),.bool (aX P)])∧Below w1.heap.size w1 w'):=fun w1 hb=>oF (h.below hb) (he.below hb) (hf.below hb)
 obtain ⟨a1,c1,rfl⟩:=h.1.sl;obtain ⟨a2,c2,rfl⟩:=h.2.1.sl;obtain ⟨a3,c3,rfl⟩:=h.2.2.sl;clear h he hf
 go_enter Tryz.func188,Tryz.ntmps188
 go_wp2_with (go_at_call 128;refine (HW.out _ (aF _ _)).mono ?_;rintro e w1 ⟨rfl,ok⟩;have HO1:=aA (aB (aF _ _) ok);clear ok)
 go_ret;exact ⟨rfl,HO1.out⟩
theorem qD {P:Pg} {v1 v2 v3:Value} {w:World} (h:PgAt w P v1 v2 v3) (he:Env w) (hf:FL w):
 Calls Tryz.prog 76 #[.agg #[.string P.nm,.int .i64 P.a,.int .i64 P.b,.int .i64 P.c,v1,v2,v3]] w fun e w'=>e= .returned (.tuple #[.string (aR P),.int .i64 (if aX P=true then 0 else 24)])∧Below w.heap.size w w':=by
 have HW:Hid (∀ w1,Below w.heap.size w w1→Calls Tryz.prog 128 #[.agg #[.string P.nm,.int .i64 P.a,.int .i64 P.b,.int .i64 P.c,v1,v2,v3]] w1 fun e w'=>e= .returned (.tuple #[.string (aR P),.bool (aX P)])∧Below w1.heap.size w1 w'):=fun w1 hb=>oF (h.below hb) (he.below hb) (hf.below hb)
 obtain ⟨a1,c1,rfl⟩:=h.1.sl;obtain ⟨a2,c2,rfl⟩:=h.2.1.sl;obtain ⟨a3,c3,rfl⟩:=h.2.2.sl;clear h he hf;have HWT:Hid (aX P=false→aR P=⟨#[]⟩):=fun hb=>by unfold aR;rw [if_neg (by rw [hb];simp)]
 cases hwb:aX P
 · rw [hwb] at HW
   have HT:=aA (HWT.out hwb);rw [HT.out] at HW ⊢
   go_enter Tryz.func76,Tryz.ntmps76
   go_wp2_with (go_at_call 128;refine (HW.out _ (aF _ _)).mono ?_;rintro e w1 ⟨rfl,ok⟩;have HO1:=aA (aB (aF _ _) ok);clear ok)
   go_ret2;exact ⟨rfl,HO1.out⟩
 · rw [hwb] at HW
   go_enter Tryz.func76,Tryz.ntmps76
   go_wp2_with (go_at_call 128;refine (HW.out _ (aF _ _)).mono ?_;rintro e w1 ⟨rfl,ok⟩;have HO1:=aA (aB (aF _ _) ok);clear ok)
   go_ret2;exact ⟨rfl,HO1.out⟩
end Go.Proofs.YtlmpiohbmlddiaaGreatDoor
