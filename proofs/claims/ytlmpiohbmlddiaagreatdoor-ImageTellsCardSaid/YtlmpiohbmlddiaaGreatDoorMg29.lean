/- Ts7a, Rk2, Ts3, Tr2: their declarations that are needed, laid in one text, remarks and blanks left out. -/
import Derived.Test.YtlmpiohbmlddiaaGreatDoorMg14
import Derived.Test.YtlmpiohbmlddiaaGreatDoorMg16
namespace Go.Proofs.YtlmpiohbmlddiaaGreatDoor
open Go.RowKit
set_option maxRecDepth 100000
def StQ (w:World) (vt vg:Value) (g cm:Nat) (q c:Nat) (st:MS) (wr:World):Prop:=
 (Below w.heap.size w wr∧BxT wr w.heap.size vt∧BxT wr (w.heap.size+1) vg)∧(wr.ownsRow (w.heap.size+2) 3 1 (.slice (some ⟨g,0,none⟩) st.m.length cm) st.m.length (eQ st.m)∧wr.ownsRow (w.heap.size+2) 3 1 (.slice (some ⟨q,0,none⟩) st.q.length c) st.q.length (lH st.q))∧q≠g
theorem mX (w:World) (vt vg:Value) (g cm q c:Nat) (st:MS):KeepP (StQ w vt vg g cm q c st):=fun _ _ h hb=>
 ⟨⟨aB h.1.1 hb,bI _ _ _ _ h.1.2.1 hb,bI _ _ _ _ h.1.2.2 hb⟩,⟨bS h.2.1.1 hb,bS h.2.1.2 hb⟩,h.2.2⟩
theorem StQ.node {w:World} {vt vg:Value} {g cm q c:Nat} {st:MS} {wr:World} (h:StQ w vt vg g cm q c st wr) {k:Nat} (hk:k<st.m.length):InI wr g k st.m[k]:=by
 have e:=World.ownsRow.cellAt h.2.1.1 k (by omega);have e2:(eQ st.m)[k]? =some (.int .i64 st.m[k]):=by simp [eQ,hk]
 exact ⟨e.trans e2,(World.ownsRow.lt h.2.1.1 g rfl).2⟩
theorem StQ.seen {w:World} {vt vg:Value} {g cm q c:Nat} {st:MS} {wr:World} (h:StQ w vt vg g cm q c st wr) {k:Nat} (hk:k<st.q.length):InI wr q k (st.q[k]:Int):=by
 have e:=World.ownsRow.cellAt h.2.1.2 k (by omega);have e2:(lH st.q)[k]? =some (.int .i64 (st.q[k]:Int)):=by simp [lH,hk]
 exact ⟨e.trans e2,(World.ownsRow.lt h.2.1.2 q rfl).2⟩
theorem StQ.put {w:World} {vt vg:Value} {g cm q c:Nat} {st:MS} {wr:World} (h:StQ w vt vg g cm q c st wr) (k:Nat) (x:Int):StQ w vt vg g cm q c ⟨st.m.set k x,st.q⟩ (wr.setCell ⟨g,k,none⟩ (.int .i64 x)):=by
 obtain ⟨h1,h2⟩:=World.ownsRow.stored h.2.1.1 k (.int .i64 x);have hB:=(World.ownsRow.lt h.2.1.1 g rfl).1;refine ⟨⟨h.1.1.grown h2 h.1.1.size (fun k hk=>by cases hk;omega),⟨h2.cell h.1.2.1.1 (by simp;omega),Nat.lt_of_lt_of_le h.1.2.1.2 h2.size⟩,⟨h2.cell h.1.2.2.1 (by simp;omega),Nat.lt_of_lt_of_le h.1.2.2.2 h2.size⟩⟩,⟨?_,?_⟩,h.2.2⟩
 · show World.ownsRow _ _ _ _ (.slice (some ⟨g,0,none⟩) (st.m.set k x).length cm) (st.m.set k x).length (eQ (st.m.set k x))
   rw [qW,List.length_set];exact h1
 · exact h.2.1.2.kept h2 (Or.inr (by simp [Value.ownBlock];exact h.2.2))
theorem StQ.app {w:World} {vt vg:Value} {g cm q c:Nat} {st:MS} {wr w1:World} {v1:Value} (h:StQ w vt vg g cm q c st wr) (r:Nat) (ho:w1.ownsRow (w.heap.size+2) 3 1 v1 (st.q.length+1) (lH st.q++[.int .i64 (r:Int)])) (hg:wr.grownBy w1 (some q)) (hat:v1.ownBlock=some q∨v1.ownBlock=some (wr.heap.size+1)):∃ q' c',v1= .slice (some ⟨q',0,none⟩) (st.q++[r]).length c'∧StQ w vt vg g cm q' c' ⟨st.m,st.q++[r]⟩ w1:=by
 have hB:=(World.ownsRow.lt h.2.1.2 q rfl).1;have hgl:=(World.ownsRow.lt h.2.1.1 g rfl).2;obtain ⟨q',c',rfl,_⟩:=ho.form (by omega);refine ⟨q',c',by rw [List.length_append];rfl,⟨h.1.1.grown hg h.1.1.size (fun k hk=>by cases hk;omega),⟨hg.cell h.1.2.1.1 (by simp;omega),Nat.lt_of_lt_of_le h.1.2.1.2 hg.size⟩,⟨hg.cell h.1.2.2.1 (by simp;omega),Nat.lt_of_lt_of_le h.1.2.2.2 hg.size⟩⟩,⟨?_,?_⟩,?_⟩
 · exact h.2.1.1.kept hg (Or.inr (by simp [Value.ownBlock];exact fun e=>h.2.2 e.symm))
 · show World.ownsRow _ _ _ _ (.slice (some ⟨q',0,none⟩) (st.q++[r]).length c') (st.q++[r]).length (lH (st.q++[r]))
   rw [tN,List.length_append];exact ho
 · rcases hat with e|e
   · have:q'=q:=by simpa [Value.ownBlock] using e
     rw [this];exact h.2.2
   · have:q'=wr.heap.size+1:=by simpa [Value.ownBlock] using e
     omega
def VS (w:World) (vt vg:Value) (g cm:Nat) (L:List Dr) (G:List Nd) (vq vi:Value) (wr:World):Prop:=
 ∃ st i q c,MInv L G st∧i≤st.q.length∧vi= .int .i64 (i:Nat)∧vq= .slice (some ⟨q,0,none⟩) st.q.length c∧StQ w vt vg g cm q c st wr∧dW L G=hF L G (L.length+1 - i) i st
def VT (w:World) (vt vg:Value) (g cm:Nat) (L:List Dr) (G:List Nd) (i r:Nat) (ed:List Eg) (vq vj:Value) (wr:World):Prop:=
 ∃ st j q c,MInv L G st∧j≤ed.length∧st.q[i]? =some r∧vj= .int .i64 (j:Nat)∧vq= .slice (some ⟨q,0,none⟩) st.q.length c∧StQ w vt vg g cm q c st wr∧dW L G=(eC L G r (ed.drop j) st).bind (hF L G (L.length - i) (i+1))
theorem StQ.bel {w:World} {vt vg:Value} {g cm q c:Nat} {st:MS} {wr:World} (h:StQ w vt vg g cm q c st wr):Below w.heap.size w wr:=h.1.1
theorem UV (p q r p' q' r':Int) (w:World):(binOp .neq 52 (.agg #[.int .i64 p,.int .i64 q,.int .i64 r]) (.agg #[.int .i64 p',.int .i64 q',.int .i64 r'])).run Tryz.prog w= .ok (.bool (!(decide (p=p')&&decide (q=q')&&decide (r=r')))) w:=by
 have u3:=Tryz.underlying3;have a3:=Tryz.isAgg3;have z3:=Tryz.sizeOf3;rw [run_neq_struct,show (10000:Nat)=9999+1 from rfl,run_equalIn_agg w 9999 52 _ _ (by kernel_rfl) (by kernel_rfl)];simp only [Program.fieldsOf,Tryz.underlying52]
 by_cases h1:p=p'
 · by_cases h2:q=q'
   · by_cases h3:r=r'
     · subst h1 h2 h3;go_simp
     · subst h1 h2;simp only [h3,decide_false,Bool.and_false];go_simp
   · subst h1;simp only [h2,decide_false,Bool.and_false,Bool.false_and];go_simp
 · simp only [h1,decide_false,Bool.false_and];go_simp
set_option maxHeartbeats 1600000 in
theorem zX {P Q:Pg} {v1 v2 v3 u1 u2 u3:Value} {w:World} (hp:PgAt w P v1 v2 v3) (hq:PgAt w Q u1 u2 u3) (hd:P.d.length≤9223372036854775807) (he:P.p.length≤9223372036854775807) (ho:P.o.length≤9223372036854775807):
 Calls Tryz.prog 48 #[.agg #[.string P.nm,.int .i64 P.a,.int .i64 P.b,.int .i64 P.c,v1,v2,v3],.agg #[.string Q.nm,.int .i64 Q.a,.int .i64 Q.b,.int .i64 Q.c,u1,u2,u3]] w fun x w'=>x= .returned (.bool (eqB P Q))∧Below w.heap.size w w':=by
 have H1:Hid (∀ w1,Below w.heap.size w w1→Calls Tryz.prog 60 #[v1,u1] w1 fun e w'=>e= .returned (.bool (eqB P.d Q.d))∧Below w1.heap.size w1 w'):=fun w1 h=>eZ (hp.1.below h) (hq.1.below h) hd
 have H2:Hid (∀ w1,Below w.heap.size w w1→Calls Tryz.prog 60 #[v2,u2] w1 fun e w'=>e= .returned (.bool (eqB P.p Q.p))∧Below w1.heap.size w1 w'):=fun w1 h=>eZ (hp.2.1.below h) (hq.2.1.below h) he
 have H3:Hid (∀ w1,Below w.heap.size w w1→Calls Tryz.prog 60 #[v3,u3] w1 fun e w'=>e= .returned (.bool (eqB P.o Q.o))∧Below w1.heap.size w1 w'):=fun w1 h=>eZ (hp.2.2.below h) (hq.2.2.below h) ho
 have HR:Hid (eqB P Q=(decide (P.nm.toList=Q.nm.toList)&&(decide (P.a=Q.a)&&decide (P.b=Q.b)&&decide (P.c=Q.c))&&eqB P.d Q.d&&eqB P.p Q.p&&eqB P.o Q.o)):=by
  refine uH ?_;obtain ⟨n,a,b,c,d,e,o⟩:=P;obtain ⟨n',a',b',c',d',e',o'⟩:=Q;simp only [Bool.and_eq_true,decide_eq_true_eq,fY,Pg.mk.injEq];exact ⟨fun ⟨h1,h2,h3,h4,h5,h6,h7⟩=>⟨⟨⟨⟨by rw [h1],⟨h2,h3⟩,h4⟩,h5⟩,h6⟩,h7⟩,fun ⟨⟨⟨⟨h1,⟨h2,h3⟩,h4⟩,h5⟩,h6⟩,h7⟩=>⟨bB h1,h2,h3,h4,h5,h6,h7⟩⟩
 obtain ⟨a1,c1,rfl⟩:=hp.1.sl;obtain ⟨a2,c2,rfl⟩:=hp.2.1.sl;obtain ⟨a3,c3,rfl⟩:=hp.2.2.sl;obtain ⟨b1,d1,rfl⟩:=hq.1.sl;obtain ⟨b2,d2,rfl⟩:=hq.2.1.sl;obtain ⟨b3,d3,rfl⟩:=hq.2.2.sl;clear hp hq hd he ho;have hv:=SO P.a P.b P.c Q.a Q.b Q.c;have hgd:=iX;obtain ⟨n,a,b,c,d,e,o⟩:=P;obtain ⟨n',a',b',c',d',e',o'⟩:=Q
 simp only at*
 generalize eqB d d'=x1 at*;generalize eqB e e'=x2 at*;generalize eqB o o'=x3 at*;generalize (decide (a=a')&&decide (b=b')&&decide (c=c'))=xv at*;generalize d.length=l1 at*;generalize e.length=l2 at*;generalize o.length=l3 at*;generalize d'.length=m1 at*;generalize e'.length=m2 at*;generalize o'.length=m3 at*
 have HB:Hid (BxP ((w.alloc (.cells #[.string n,.int .i64 a,.int .i64 b,.int .i64 c,.slice a1 l1 c1,.slice a2 l2 c2,.slice a3 l3 c3] 54)).alloc (.cells #[.string n',.int .i64 a',.int .i64 b',.int .i64 c',.slice b1 m1 d1,.slice b2 m2 d2,.slice b3 m3 d3] 54)) w.heap.size n a b c (.slice a1 l1 c1) (.slice a2 l2 c2) (.slice a3 l3 c3)∧BxP ((w.alloc (.cells #[.string n,.int .i64 a,.int .i64 b,.int .i64 c,.slice a1 l1 c1,.slice a2 l2 c2,.slice a3 l3 c3] 54)).alloc (.cells #[.string n',.int .i64 a',.int .i64 b',.int .i64 c',.slice b1 m1 d1,.slice b2 m2 d2,.slice b3 m3 d3] 54)) (w.heap.size+1) n' a' b' c' (.slice b1 m1 d1) (.slice b2 m2 d2) (.slice b3 m3 d3)):=⟨bZ _ _ _ _ _ _ _ _ _ _ (BxP.new rfl _ _ _ _ _ _ _) (aF _ _),BxP.new (by simp) _ _ _ _ _ _ _⟩
 have HK:Hid (KeepP fun w1=>BxP w1 w.heap.size n a b c (.slice a1 l1 c1) (.slice a2 l2 c2) (.slice a3 l3 c3)∧BxP w1 (w.heap.size+1) n' a' b' c' (.slice b1 m1 d1) (.slice b2 m2 d2) (.slice b3 m3 d3)):=(bZ _ _ _ _ _ _ _ _).and (bZ _ _ _ _ _ _ _ _);have t1:True:=trivial;have t2:True:=trivial
 by_cases hn:n.toList=n'.toList
 · cases xv
   · go_enter Tryz.func48,Tryz.ntmps48
     go_wp2
     go_ret;exact ⟨aC (by rw [HR.out];simp),aV _ _ _⟩
   · go_enter Tryz.func48,Tryz.ntmps48
     cases x1
     · go_wp2_with (go_at_call 60;refine (H1.out _ (aV _ _ _)).mono ?_;rintro x w1 ⟨rfl,ok⟩)
       go_ret;exact ⟨aC (by rw [HR.out];simp),aB (aV _ _ _) ok⟩
     · cases x2
       · go_wp2_with (first
          |(have _t:=t1;go_at_call 60;refine (H1.out _ (aV _ _ _)).mono ?_;rintro x w1 ⟨rfl,ok⟩;clear t1;have HB1:=aA (HK.out _ _ HB.out ok);obtain ⟨⟨p0,p1,p2,p3,p4,p5,p6,p7⟩,⟨q0,q1,q2,q3,q4,q5,q6,q7⟩⟩:=HB1.out)
          |(go_at_call 60;refine (H2.out _ (aB (aV _ _ _) ok)).mono ?_;rintro x w2 ⟨rfl,ok2⟩))
         go_ret;exact ⟨aC (by rw [HR.out];simp),aB (aB (aV _ _ _) ok) ok2⟩
       · go_wp2_with (first
          |(have _t:=t1;go_at_call 60;refine (H1.out _ (aV _ _ _)).mono ?_;rintro x w1 ⟨rfl,ok⟩;clear t1;have HB1:=aA (HK.out _ _ HB.out ok);obtain ⟨⟨p0,p1,p2,p3,p4,p5,p6,p7⟩,⟨q0,q1,q2,q3,q4,q5,q6,q7⟩⟩:=HB1.out)
          |(have _t:=t2;go_at_call 60;refine (H2.out _ (aB (aV _ _ _) ok)).mono ?_;rintro x w2 ⟨rfl,ok2⟩;clear t2;have HB2:=aA (HK.out _ _ HB1.out ok2);clear p0 p1 p2 p3 p4 p5 p6 p7 q0 q1 q2 q3 q4 q5 q6 q7;obtain ⟨⟨p0,p1,p2,p3,p4,p5,p6,p7⟩,⟨q0,q1,q2,q3,q4,q5,q6,q7⟩⟩:=HB2.out)
          |(go_at_call 60;refine (H3.out _ (aB (aB (aV _ _ _) ok) ok2)).mono ?_;rintro x w3 ⟨rfl,ok3⟩))
         go_ret;exact ⟨aC (by rw [HR.out];simp [hn]),aB (aB (aB (aV _ _ _) ok) ok2) ok3⟩
 · go_enter Tryz.func48,Tryz.ntmps48
   go_wp2
   go_ret;exact ⟨aC (by rw [HR.out];simp [hn]),aV _ _ _⟩
set_option maxHeartbeats 6400000 in
theorem DR {L:List Dr} {v:Value} {w:World} (h:DirsAt w v L) (hz:L.length≤9223372036854775807) (hk:iB L) (hn:∀ d ∈ L,PgN d.pk∧∀ s ∈ d.pa,s.size≤9223372036854775807):
 Calls Tryz.prog 100 #[.agg #[v]] w fun e w'=>e= .returned (.int .i64 (sI (bP L)))∧Below w.heap.size w w':=by
 have HYE:Hid (bP L=true→sI (bP L)=0):=fun e=>by rw [e];rfl
 have HNO:Hid (bP L=false→sI (bP L)=42):=fun e=>by rw [e];rfl
 have HSD:Hid (∀ w1,Below w.heap.size w w1→∀ i (hi:i<L.length),Calls Tryz.prog 146 #[.agg #[v],.int .i64 i] w1 fun e w'=>e= .returned (.bool (eE L i))∧Below w1.heap.size w1 w'):=fun w1 hb i hi=>CQ (h.below hb) hz hk hn hi
 obtain ⟨ad,cap,rfl,hc,hsl⟩:=h.sl
 by_cases h0:L.length=0
 · have HR:Hid (bP L=false):=eK fun h=>by omega
   clear hsl h;rw [h0]
   go_enter Tryz.func100,Tryz.ntmps100
   go_wp2
   go_ret;exact ⟨bN (HNO.out HR.out).symm,aF _ _⟩
 · have hn0:decide ((L.length:Int)<1)=false:=decide_eq_false (by omega)
   have hn1:¬ ((L.length:Int)<1):=by omega
   by_cases h1:257<L.length
   · have HR:Hid (bP L=false):=eK fun h=>by omega
     have hg1:decide ((L.length:Int)>257)=true:=decide_eq_true (by omega);clear hsl h
     go_enter Tryz.func100,Tryz.ntmps100
     go_wp2
     go_ret;exact ⟨bN (HNO.out HR.out).symm,aF _ _⟩
   · have hg1:decide ((L.length:Int)>257)=false:=decide_eq_false (by omega)
     have hpos:0<L.length:=by omega
     have hposI:(0:Int)<(L.length:Int):=by omega
     obtain ⟨g,o,rfl,u,v1,v2,v3,hd0⟩:=hsl 0 hpos;rw [Nat.zero_mul,Nat.add_zero] at hd0;have HRL:=aA (mF hpos)
     have HSM:Hid (∀ w1,Below w.heap.size w w1→Calls Tryz.prog 48 #[.agg #[.string L[0].pk.nm,.int .i64 L[0].pk.a,.int .i64 L[0].pk.b,.int .i64 L[0].pk.c,v1,v2,v3],.agg #[.string ⟨#[]⟩,.int .i64 0,.int .i64 0,.int .i64 0,.slice none 0 0,.slice none 0 0,.slice none 0 0]] w1 fun e w'=>e= .returned (.bool (eqB L[0].pk fS))∧Below w1.heap.size w1 w'):=fun w1 hb=>by
      have hz0:=hk.2 _ (List.getElem_mem hpos);exact zX (hd0.2.1.2.below hb) (FE w1) hz0.1 hz0.2.1 hz0.2.2
     have HRB:Hid (jR L[0]=(decide (L[0].pa.length=0)&&decide (L[0].nd=0)&&eqB L[0].pk fS)):=rfl;obtain ⟨ua,uc,rfl⟩:=hd0.2.1.1.sl;obtain ⟨x1,y1,rfl⟩:=hd0.2.1.2.1.sl;obtain ⟨x2,y2,rfl⟩:=hd0.2.1.2.2.1.sl;obtain ⟨x3,y3,rfl⟩:=hd0.2.1.2.2.2.sl;have HDR:Hid (∀ w1,Below w.heap.size w w1→(w1.cell? ⟨g,o,none⟩=some (.slice ua L[0].pa.length uc)∧w1.cell? ⟨g,o+1,none⟩=some (.string L[0].pk.nm)∧w1.cell? ⟨g,o+2,none⟩=some (.int .i64 L[0].pk.a)∧w1.cell? ⟨g,o+3,none⟩=some (.int .i64 L[0].pk.b)∧w1.cell? ⟨g,o+4,none⟩=some (.int .i64 L[0].pk.c)∧w1.cell? ⟨g,o+5,none⟩=some (.slice x1 L[0].pk.d.length y1)∧w1.cell? ⟨g,o+6,none⟩=some (.slice x2 L[0].pk.p.length y2)∧w1.cell? ⟨g,o+7,none⟩=some (.slice x3 L[0].pk.o.length y3)∧w1.cell? ⟨g,o+8,none⟩=some (.int .i64 L[0].nd))):=fun w1 hb=>(hd0.below hb).1
     clear hsl h hk hn hd0;generalize L[0]=d at*;obtain ⟨c0,c1,c2,c3,c4,c5,c6,c7,c8⟩:=HDR.out _ (aF w (.cells #[.slice (some ⟨g,o,none⟩) L.length cap] 30));have HKB:Hid (KeepP fun w1=>Below w.heap.size w w1∧BxT w1 w.heap.size (.slice (some ⟨g,o,none⟩) L.length cap)):=(aD w).and (bI _ _);have HBX:Hid (Below w.heap.size w (w.alloc (.cells #[.slice (some ⟨g,o,none⟩) L.length cap] 30))∧BxT (w.alloc (.cells #[.slice (some ⟨g,o,none⟩) L.length cap] 30)) w.heap.size (.slice (some ⟨g,o,none⟩) L.length cap)):=⟨aF _ _,BxT.new _ _⟩;generalize jR d=rb at*;generalize eqB d.pk fS=eb at*;generalize d.pa.length=n at*;generalize d.nd=nd at*;cases hrb:rb
     · have HR:Hid (bP L=false):=eK fun h=>by rw [HRL.out,hrb] at h;cases h.2.1
       have HOR:Hid (¬ n=0∨¬ nd=0∨eb=false):=by
        unfold Hid
        by_cases a1:n=0
        · by_cases a2:nd=0
          · refine Or.inr (Or.inr ?_)
            have:=HRB.out
            rw [hrb,decide_eq_true a1,decide_eq_true a2] at this
            simpa using this.symm
          · exact Or.inr (Or.inl a2)
        · exact Or.inl a1
       clear HRB hrb
       by_cases a1:n=0
       · subst a1
         cases eb
         · go_enter Tryz.func100,Tryz.ntmps100
           go_wp2_with (go_at_call 48;refine (HSM.out _ HBX.out.1).mono ?_;rintro e w1 ⟨rfl,ok⟩;have HB1:=aA (HKB.out _ _ HBX.out ok);obtain ⟨_,z0,z1⟩:=HB1.out;clear c0 c1 c2 c3 c4 c5 c6 c7 c8 ok;obtain ⟨c0,c1,c2,c3,c4,c5,c6,c7,c8⟩:=HDR.out _ HB1.out.1)
           go_ret;exact ⟨bN (HNO.out HR.out).symm,HB1.out.1⟩
         · have a2:¬ nd=0:=by
            rcases HOR.out with h|h|h
            · exact absurd rfl h
            · exact h
            · cases h
           have a3:(nd==0)=false:=by rw [beq_eq_false_iff_ne];exact a2
           have a4:(nd != 0)=true:=by rw [bne,a3];rfl
           go_enter Tryz.func100,Tryz.ntmps100
           go_wp2_with (go_at_call 48;refine (HSM.out _ HBX.out.1).mono ?_;rintro e w1 ⟨rfl,ok⟩;have HB1:=aA (HKB.out _ _ HBX.out ok);obtain ⟨_,z0,z1⟩:=HB1.out;clear c0 c1 c2 c3 c4 c5 c6 c7 c8 ok;obtain ⟨c0,c1,c2,c3,c4,c5,c6,c7,c8⟩:=HDR.out _ HB1.out.1)
           go_ret;exact ⟨bN (HNO.out HR.out).symm,HB1.out.1⟩
       · have a3:((n:Int)==0)=false:=by rw [beq_eq_false_iff_ne];omega
         have a4:((n:Int) != 0)=true:=by rw [bne,a3];rfl
         go_enter Tryz.func100,Tryz.ntmps100
         go_wp2_with (go_at_call 48;refine (HSM.out _ HBX.out.1).mono ?_;rintro e w1 ⟨rfl,ok⟩;have HB1:=aA (HKB.out _ _ HBX.out ok);obtain ⟨_,z0,z1⟩:=HB1.out;clear c0 c1 c2 c3 c4 c5 c6 c7 c8 ok;obtain ⟨c0,c1,c2,c3,c4,c5,c6,c7,c8⟩:=HDR.out _ HB1.out.1)
         go_ret;exact ⟨bN (HNO.out HR.out).symm,HB1.out.1⟩
     · rw [hrb] at HRB HRL
       have hall:n=0∧nd=0∧eb=true:=by
        have:=HRB.out.symm
        simp only [Bool.and_eq_true,decide_eq_true_eq] at this;exact ⟨this.1.1,this.1.2,this.2⟩
       obtain ⟨rfl,rfl,rfl⟩:=hall;clear HRB hrb
       go_enter Tryz.func100,Tryz.ntmps100
       go_wp2_with (go_at_call 48;refine (HSM.out _ HBX.out.1).mono ?_;rintro e w1 ⟨rfl,ok⟩;have HB1:=aA (HKB.out _ _ HBX.out ok);obtain ⟨_,z0,z1⟩:=HB1.out;clear c0 c1 c2 c3 c4 c5 c6 c7 c8 ok;obtain ⟨c0,c1,c2,c3,c4,c5,c6,c7,c8⟩:=HDR.out _ HB1.out.1)
       clear c0 c1 c2 c3 c4 c5 c6 c7 c8 z0 z1 HDR HSM
       go_loopw [4] (fun vi wr=>∃ k:Nat,(1≤k∧k≤L.length)∧vi= .int .i64 k∧(Below w.heap.size w wr∧BxT wr w.heap.size (.slice (some ⟨g,o,none⟩) L.length cap))∧∀ j,j<k→j≠0→eE L j=true) (fun vi _=>L.length - (intOf vi).toNat)
       case atStart=>exact ⟨1,⟨Nat.le_refl _,hpos⟩,rfl,HB1.out,fun j h h2=>by omega⟩
       case round=>
        obtain ⟨k,⟨hk1,hk⟩,rfl,⟨hb,bx0,bx1⟩,hall⟩:=hrel;have HALL:=aA hall;have HBX2:Hid (Below w.heap.size w wr∧BxT wr w.heap.size (.slice (some ⟨g,o,none⟩) L.length cap)):=⟨hb,bx0,bx1⟩;clear hall
        by_cases hlt:k<L.length
        · have HC:=aA (HSD.out wr hb k hlt)
          have HNX:Hid (eE L k=true→∀ j,j<k+1→j≠0→eE L j=true):=fun h j hj h2=>by
           rcases Nat.lt_or_ge j k with hjk|hjk
           · exact HALL.out j hjk h2
           · obtain rfl:j=k:=by omega
             exact h
          have HBD:Hid (eE L k=false→bP L=false):=fun h=>eK fun hh=>by have:=hh.2.2 k hlt (by omega);rw [h] at this;cases this
          clear hb;cases hfo:eE L k
          · have HR:=aA (HBD.out hfo)
            rw [hfo] at HC;clear HNX HBD HALL
            go_wp2_with (go_at_call 146;refine HC.out.mono ?_;rintro e w2 ⟨rfl,ok⟩;have HB2:=aA (HKB.out _ _ HBX2.out ok);clear ok)
            go_ret;exact ⟨bN (HNO.out HR.out).symm,HB2.out.1⟩
          · have HR:=aA (HNX.out hfo)
            rw [hfo] at HC;clear HNX HBD HALL
            go_wp2_with (go_at_call 146;refine HC.out.mono ?_;rintro e w2 ⟨rfl,ok⟩;have HB2:=aA (HKB.out _ _ HBX2.out ok);clear ok)
            exact ⟨⟨k+1,⟨by omega,by omega⟩,by go_num,HB2.out,HR.out⟩,by simp [intOf];omega⟩
        · obtain rfl:k=L.length:=by omega
          have HR:Hid (bP L=true):=dL.2 ⟨⟨hpos,by omega⟩,HRL.out,HALL.out⟩;clear hb
          go_wp2
          go_ret;exact ⟨bN (HYE.out HR.out).symm,HBX2.out.1⟩
def LkD (L:List Dr) (p:List ByteArray) (s:ByteArray) (i:Int):Prop:=(∃ j:Nat,i=j∧j≤p.length∧dR L p s p.length=dR L p s j)∨(i= -1∧dR L p s p.length= -1)
set_option maxHeartbeats 3200000 in
theorem DS {L:List Dr} {v:Value} {w:World} (h:DirsAt w v L) (hz:L.length≤9223372036854775807) (hf:FitP1 L) {k:Nat} (hk:k<L.length) (s:ByteArray) (hss:s.size≤9223372036854775807) (hn:Sc.aH s.data.toList=true):
 Calls Tryz.prog 101 #[.agg #[v],.int .i64 k,.string s] w fun e w'=>e= .returned (.int .i64 (bY L k s))∧Below w.heap.size w w':=by
 have HN:Hid (∀ w1,Calls Tryz.prog 82 #[.string s] w1 fun e w'=>e= .returned (.bool true)∧w'=w1):=fun w1=>by have:=Sc.eJ s hss w1;rw [hn] at this;exact this
 have HV:=aA (wY (L:=L) hk hn);have hfk:=hf _ (List.getElem_mem hk);have HFI:Hid (∀ w1,Below w.heap.size w w1→∀ vp p,PathAt w1 vp p→Calls Tryz.prog 147 #[.agg #[v],vp] w1 fun e w'=>e= .returned (.int .i64 (bA L p))∧Below w1.heap.size w1 w'):=fun w1 hb vp p hp=>nM (h.below hb) hz hf.fit hp
 obtain ⟨ad,cap,rfl,hc,hsl⟩:=h.sl;obtain ⟨g,o,rfl,u,v1,v2,v3,⟨c0,c1,c2,c3,c4,c5,c6,c7,c8⟩,⟨hpa,hpk⟩,hg⟩:=hsl k hk;obtain ⟨ua,uc,rfl,huc,hux⟩:=hpa.el
 have HJ:Hid (∀ w1,Below w.heap.size w w1→∀ j,j≤L[k].pa.length→Calls Tryz.prog 148 #[.slice ua j uc,.string s] w1 fun e w'=>∃ a c,e= .returned (.slice a (j+1) c)∧PathAt w' (.slice a (j+1) c) (L[k].pa.take j++[s])∧Below w1.heap.size w1 w'):=fun w1 hb j hj=>by
  have hl:(L[k].pa.take j).length=j:=by rw [List.length_take];omega
  have:=BR ((hpa.cut hj).below hb) s (by rw [hl];omega)
  rw [hl] at this;exact this
 clear c1 c2 c3 c4 c5 c6 c7 c8 hpk hpa h hsl hux;generalize L[k].pa=p at*;have HFR:Hid (∀ q,bA L q= -1∨0≤bA L q):=fun q=>by have:=gS L q;omega
 clear hn hf;have c0':(w.alloc (.cells #[.slice (some ⟨g,o,none⟩) L.length cap] 30)).cell? ⟨g,o+k*9,none⟩=some (.slice ua p.length uc):=((aF w (.cells #[.slice (some ⟨g,o,none⟩) L.length cap] 30)).cell (p:=⟨g,o+k*9,none⟩) hg).trans c0
 go_enter Tryz.func101,Tryz.ntmps101
 go_wp2_with (go_at_call 82;refine (HN.out _).mono ?_;rintro e w1 ⟨rfl,rfl⟩)
 clear c0' c0
 go_loopw [9] (fun vi wr=>∃ i:Int,vi= .int .i64 i∧(Below w.heap.size w wr∧BxT wr w.heap.size (.slice (some ⟨g,o,none⟩) L.length cap))∧LkD L p s i) (fun vi _=>(intOf vi+1).toNat)
 case atStart=>exact ⟨_,rfl,⟨aF _ _,BxT.new _ _⟩,Or.inl ⟨p.length,rfl,Nat.le_refl _,rfl⟩⟩
 case round=>
  obtain ⟨i,rfl,⟨hb,bx0,bx1⟩,hd⟩:=hrel;have HB:=aA hb;have HBX:Hid (BxT wr w.heap.size (.slice (some ⟨g,o,none⟩) L.length cap)):=⟨bx0,bx1⟩
  rcases hd with ⟨j,rfl,hj,hst⟩|⟨rfl,hst⟩
  · have HST:=aA hst
    have HJC:=aA (HJ.out wr.drew hb.drew j hj);have HFC:Hid (∀ w5 v5,Below w.heap.size w w5→PathAt w5 v5 (p.take j++[s])→Calls Tryz.prog 147 #[.agg #[.slice (some ⟨g,o,none⟩) L.length cap],v5] w5 fun e w'=>e= .returned (.int .i64 (bA L (p.take j++[s])))∧Below w5.heap.size w5 w'):=fun w5 v5 hb hp=>HFI.out w5 hb v5 _ hp
    have HHIT:Hid (0≤bA L (p.take j++[s])→dR L p s p.length=bA L (p.take j++[s])):=fun h=>by rw [HST.out];exact wW (by omega)
    have HEND:Hid (bA L (p.take j++[s])= -1→j=0→dR L p s p.length= -1):=fun h h2=>by rw [HST.out];subst h2;exact h
    have HGO:Hid (∀ i,j=i+1→bA L (p.take j++[s])= -1→dR L p s p.length=dR L p s i):=fun i h h2=>by rw [HST.out];subst h;exact sW h2
    have HFJ:=aA (HFR.out (p.take j++[s]));have hjc:j≤uc:=by omega
    generalize bA L (p.take j++[s])=f at*;clear hst hb;have hjg:((j:Int)≥0)=True:=eq_true (by omega)
    go_wp2_with fail
    go_region_held3 (fun w'=>w'.cell? ⟨w.heap.size,0,none⟩=some (.slice (some ⟨g,o,none⟩) L.length cap)) (go_keep) (first
     |(have _h:=HP5;go_at_call 147;refine (HFC.out _ _ HB5.out HP5.out).mono ?_;rintro e w6 ⟨rfl,ok⟩;have HB6:Hid (Below w.heap.size w w6∧BxT w6 w.heap.size (.slice (some ⟨g,o,none⟩) L.length cap)):=⟨aB HB5.out ok,bI _ _ _ _ HX5.out ok⟩;have b6:=HB6.out.2.1;clear ok)
     |(go_at_call 148;refine HJC.out.mono ?_;rintro e w5 ⟨a5,c5,rfl,hp5,hb5⟩;have HP5:=aA hp5;have HB5:Hid (Below w.heap.size w w5):=aB HB.out.drew hb5;have HX5:Hid (BxT w5 w.heap.size (.slice (some ⟨g,o,none⟩) L.length cap)):=bI _ _ _ _ ((bI _ _).drew HBX.out) hb5;have b5:=HX5.out.1;clear hp5 hb5))
    all_goals rcases HFJ.out with hm|hge
    all_goals first
     |(have HR:=aA (HHIT.out hge)
       go_wp2
       go_ret;exact ⟨bN (by rw [HV.out,HR.out]),HB6.out.1⟩)
     |(subst hm
       rcases Nat.eq_zero_or_pos j with h0|h0
       · have HR:=aA (HEND.out rfl h0)
         subst h0
         go_wp2
         exact ⟨⟨HB6.out,Or.inr ⟨rfl,HR.out⟩⟩,by simp [intOf]⟩
       · obtain ⟨i,rfl⟩:∃ i,j=i+1:=⟨j - 1,by omega⟩
         have HR:=aA (HGO.out i rfl rfl)
         go_wp2
         exact ⟨⟨HB6.out,Or.inl ⟨i,rfl,by omega,HR.out⟩⟩,by simp [intOf];omega⟩)
  · have HST:=aA hst
    clear hst hb
    go_wp2
    go_ret;exact ⟨bN (by rw [HV.out,HST.out]),HB.out⟩
theorem PK {L:List Dr} {v:Value} {w:World} (h:DirsAt w v L) (f:Int) (s:ByteArray) (hss:s.size≤9223372036854775807) (hno:¬ (0≤f∧f.toNat<L.length∧Sc.aH s.data.toList=true)):
 Calls Tryz.prog 101 #[.agg #[v],.int .i64 f,.string s] w fun e w'=>e= .returned (.int .i64 (bY L f s))∧Below w.heap.size w w':=by
 have HV:=aA (sY hno);have HN:Hid (∀ w1,Calls Tryz.prog 82 #[.string s] w1 fun e w'=>e= .returned (.bool (Sc.aH s.data.toList))∧w'=w1):=fun w1=>Sc.eJ s hss w1
 obtain ⟨ad,cap,rfl,hc,hsl⟩:=h.sl;clear h hsl
 by_cases h1:f<0
 · clear hno
   generalize Sc.aH s.data.toList=nb at*
   go_enter Tryz.func101,Tryz.ntmps101
   go_wp2_with (go_at_call 82;refine (HN.out _).mono ?_;rintro e w1 ⟨rfl,rfl⟩)
   go_ret;exact ⟨bN HV.out.symm,aF _ _⟩
 · by_cases h2:(L.length:Int)≤f
   · clear hno
     generalize Sc.aH s.data.toList=nb at*
     go_enter Tryz.func101,Tryz.ntmps101
     go_wp2_with (go_at_call 82;refine (HN.out _).mono ?_;rintro e w1 ⟨rfl,rfl⟩)
     go_ret;exact ⟨bN HV.out.symm,aF _ _⟩
   · have hnn:Sc.aH s.data.toList=false:=by
      cases hx:Sc.aH s.data.toList with
      |false=>rfl
      |true=>exact absurd ⟨by omega,by omega,hx⟩ hno
     rw [hnn] at HN;clear hno hnn;have h3:f<(L.length:Int):=by omega
     have h4:0≤f:=by omega
     go_enter Tryz.func101,Tryz.ntmps101
     go_wp2_with (go_at_call 82;refine (HN.out _).mono ?_;rintro e w1 ⟨rfl,rfl⟩)
     go_ret;exact ⟨bN HV.out.symm,aF _ _⟩
theorem KK {L:List Dr} {v:Value} {w:World} (h:DirsAt w v L) (hz:L.length≤9223372036854775807) (hf:FitP1 L) (f:Int) (s:ByteArray) (hss:s.size≤9223372036854775807):
 Calls Tryz.prog 101 #[.agg #[v],.int .i64 f,.string s] w fun e w'=>e= .returned (.int .i64 (bY L f s))∧Below w.heap.size w w':=by
 by_cases hh:0≤f∧f.toNat<L.length∧Sc.aH s.data.toList=true
 · obtain ⟨k,rfl⟩:∃ k:Nat,f=k:=⟨f.toNat,by omega⟩
   exact DS h hz hf (by simpa using hh.2.1) s hss hh.2.2
 · exact PK h f s hss hh
end Go.Proofs.YtlmpiohbmlddiaaGreatDoor
