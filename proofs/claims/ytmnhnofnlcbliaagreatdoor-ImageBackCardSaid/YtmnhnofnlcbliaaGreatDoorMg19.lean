/- Lo2, Im5: their declarations that are needed, laid in one text, remarks and blanks left out. -/
import Derived.Test.YtmnhnofnlcbliaaGreatDoorMg18
namespace Go.Proofs.YtmnhnofnlcbliaaGreatDoor.Lo
open Go.RowKit
open Sc (KeepP aB aG Bs ba LL OwnW lD)
set_option maxRecDepth 100000
open Sc (Bs ba isW isL wB aW aM aK)
open Sc (KeepP aB aG Bs ba LL OwnW lD isW isL aM)
open Sc (KeepP aB aG Bs ba WordsAt)
theorem TU (p:Pn):(#[.string ⟨#[119,105,116,104]⟩,.string p.nm,.string (aL p.a p.b p.c)]:Array Value).toList=lD (lU p):=by
 simp only [lD,lU,bsV,List.map_cons,List.map_nil,Sc.kL];rfl
theorem TV (e:Eg):(#[.string ⟨#[116,111]⟩,.string e.lb,.string ⟨(Lib.itoa e.to).toArray⟩]:Array Value).toList=lD (mB e):=by
 simp only [lD,mB,List.map_cons,List.map_nil,Sc.kL];rfl
def SpellAll (w0:World):Prop:=∀ W,Below w0.heap.size w0 W→∀ n:Int,0≤n→n≤999→Spells W n ⟨(Lib.itoa n).toArray⟩
theorem SpellAll.print {w0:World} (h:SpellAll w0) {a b c:Int} (hv:bB a b c=true) (W:World) (hb:Below w0.heap.size w0 W):Calls Tryz.prog 125 #[.agg #[.int .i64 a,.int .i64 b,.int .i64 c]] W fun e w'=>e= .returned (.string (aL a b c))∧Below W.heap.size W w':=by
 obtain ⟨a0,a1,b0,b1,c0,c1⟩:=dR hv;exact yW a b c W (fun _=>h W hb a (by omega) (by omega)) (fun _=>h W hb b (by omega) (by omega)) (fun _=>h W hb c (by omega) (by omega))
set_option maxHeartbeats 6400000 in
theorem tO {w0 w:World} {vl:Value} {ps:List (Value×List Bs)} {n:Nd} {vc ve:Value} (hb0:Below w0.heap.size w0 w) (hll:LL w w0.heap.size vl ps) (hc:PinsAt w0 vc n.cx) (he:EdgesAt w0 ve n.ed) (hs:SpellAll w0)
 (hpv:∀ p ∈ n.cx,bB p.a p.b p.c=true) (hev:∀ e ∈ n.ed,0≤e.to∧e.to≤999) (hlp:ps.length≤500000) (hlc:n.cx.length≤1000) (hle:n.ed.length≤1000):
 Calls Tryz.prog 126 #[vl,.agg #[.string n.nm,.int .i64 n.a,.int .i64 n.b,.int .i64 n.c,vc,ve]] w fun e w'=>∃ v qs,e= .returned v∧LU w0 w vl v (ps++qs) w'∧qs.map (·.2)=dG n:=by
 have HPR:Hid (∀ p ∈ n.cx,∀ W,Below w0.heap.size w0 W→Calls Tryz.prog 125 #[.agg #[.int .i64 p.a,.int .i64 p.b,.int .i64 p.c]] W fun e w'=>e= .returned (.string (aL p.a p.b p.c))∧Below W.heap.size W w'):=fun p hp W hb=>hs.print (hpv p hp) W hb
 have HIT:Hid (∀ e ∈ n.ed,∀ W,Below w0.heap.size w0 W→Calls Tryz.prog 170 #[.int .i64 e.to] W fun e' w'=>e'= .returned (.string ⟨(Lib.itoa e.to).toArray⟩)∧Below W.heap.size W w'):=fun e he W hb=>hs W hb e.to (hev e he).1 (hev e he).2 W (Below.refl _ _)
 have HCX:Hid (∀ W,Below w0.heap.size w0 W→PinsAt W vc n.cx):=fun W hb=>hc.below hb
 have HED:Hid (∀ W,Below w0.heap.size w0 W→EdgesAt W ve n.ed):=fun W hb=>he.below hb
 obtain ⟨ac,cc,rfl⟩:=hc.sl;obtain ⟨ae,ce,rfl⟩:=he.sl;have hvl:vl.ownBlock≠some w.heap.size:=fun e=>by have:=(World.ownsRow.lt hll.1 _ e).2;omega
 have HNB:Hid (BxNd (w.alloc (.cells #[.string n.nm,.int .i64 n.a,.int .i64 n.b,.int .i64 n.c,.slice ac n.cx.length cc,.slice ae n.ed.length ce] 60)) w.heap.size n (.slice ac n.cx.length cc) (.slice ae n.ed.length ce)):=BxNd.new rfl _ _ _;have HFR:Hid (∀ v rs W,LU w0 (w.alloc (.cells #[.string n.nm,.int .i64 n.a,.int .i64 n.b,.int .i64 n.c,.slice ac n.cx.length cc,.slice ae n.ed.length ce] 60)) vl v rs W→LU w0 w vl v rs W):=fun v rs W h=>⟨h.1,h.2.1,⟨h.2.2.1.os,h.2.2.1.tape,h.2.2.1.output,by have:=h.2.2.1.size;simp at this;omega,fun k hk hn=>(h.2.2.1.block k (by simp;omega) hn).trans ((aC w (.cells #[.string n.nm,.int .i64 n.a,.int .i64 n.b,.int .i64 n.c,.slice ac n.cx.length cc,.slice ae n.ed.length ce] 60)).block k hk)⟩,h.2.2.2.imp id fun ⟨k,h1,h2⟩=>⟨k,h1,by simp at h2;omega⟩⟩
 have HKN:Hid (∀ v rs W,LU w0 (w.alloc (.cells #[.string n.nm,.int .i64 n.a,.int .i64 n.b,.int .i64 n.c,.slice ac n.cx.length cc,.slice ae n.ed.length ce] 60)) vl v rs W→BxNd W w.heap.size n (.slice ac n.cx.length cc) (.slice ae n.ed.length ce)):=fun v rs W h=>by
  obtain ⟨⟨h0,h1,h2,h3,h4,h5⟩,hg⟩:=HNB.out;have q:=fun i=>h.cell (N:=w.heap.size) (by simp) hvl i
  exact ⟨⟨by rw [q];exact h0,by rw [q];exact h1,by rw [q];exact h2,by rw [q];exact h3,by rw [q];exact h4,by rw [q];exact h5⟩,by have:=h.2.2.1.size;simp at this;omega⟩
 have HSA:Hid (LU w0 (w.alloc (.cells #[.string n.nm,.int .i64 n.a,.int .i64 n.b,.int .i64 n.c,.slice ac n.cx.length cc,.slice ae n.ed.length ce] 60)) vl vl ps (w.alloc (.cells #[.string n.nm,.int .i64 n.a,.int .i64 n.b,.int .i64 n.c,.slice ac n.cx.length cc,.slice ae n.ed.length ce] 60))):=LU.start (hll.below (aC _ _)) (aA hb0 (aC _ _));clear hb0 hll hc he hs hpv hev;obtain ⟨W1,hW1⟩:∃ W1,W1=w.alloc (.cells #[.string n.nm,.int .i64 n.a,.int .i64 n.b,.int .i64 n.c,.slice ac n.cx.length cc,.slice ae n.ed.length ce] 60):=⟨_,rfl⟩;have HSB:Hid (LU w0 W1 vl vl ps (w.alloc (.cells #[.string n.nm,.int .i64 n.a,.int .i64 n.b,.int .i64 n.c,.slice ac n.cx.length cc,.slice ae n.ed.length ce] 60))):=by unfold Hid;rw [hW1];exact HSA.out
 rw [←hW1] at HFR HKN;clear HSA hW1;obtain ⟨⟨y0,y1,y2,y3,y4,y5⟩,y6⟩:=HNB.out
 go_enter Tryz.func126,Tryz.ntmps126
 go_wp2_with fail
 go_loopw [0,12] (fun u i wr=>∃ (k:Nat) (qs:List (Value×List Bs)),k≤n.cx.length∧i= .int .i64 k∧qs.length=k∧LU w0 W1 vl u (ps++qs) wr∧qs.map (·.2)=(n.cx.take k).map lU) (fun _ i _=>n.cx.length - (intOf i).toNat)
 case atStart=>exact ⟨0,[],Nat.zero_le _,rfl,rfl,by rw [List.append_nil];exact HSB.out,rfl⟩
 case round=>
  obtain ⟨k,qs,hk,rfl,hql,hlu,hqs⟩:=hrel;have HLU:=aB hlu;have HQS:=aB hqs;have HLN:Hid ((ps++qs).length≤1000000):=by unfold Hid;rw [List.length_append];omega
  have HQL:=aB hql;clear hlu hqs hql
  by_cases hlt:k<n.cx.length
  · have hki:(k:Int)<(n.cx.length:Int):=by omega
    obtain ⟨ad,cap,hsl,_,hcs⟩:=HCX.out _ HLU.out.2.1;simp only [Value.slice.injEq,true_and] at hsl;obtain ⟨hsl,hcc⟩:=hsl;rw [←hsl] at hcs;clear hsl hcc
    obtain ⟨g,o,rfl,hg,hcs⟩:∃ g o,ac=some ⟨g,o,none⟩∧g<wr.heap.size∧∀ i (h:i<n.cx.length),PnIn wr g (o+i*4) n.cx[i]:=by
     rcases hcs with h|h
     · rw [h] at hlt;exact absurd hlt (Nat.not_lt_zero _)
     · exact h
    obtain ⟨⟨d0,d1,d2,d3⟩,_⟩:=hcs k hlt;have HP1:=aB (HPR.out _ (List.getElem_mem hlt));have HTK:Hid ((n.cx.take (k+1)).map lU=(n.cx.take k).map lU++[lU n.cx[k]]):=by unfold Hid;rw [List.take_succ_eq_append_getElem hlt,List.map_append];rfl
    generalize n.cx[k]=p at*;have HLB:Hid (LU w0 W1 vl u0 (ps++qs) (wr.alloc (.cells #[.string p.nm,.int .i64 p.a,.int .i64 p.b,.int .i64 p.c] 129)).drew):=(HLU.out.below (aC _ _)).below (Below.refl _ _).drew;have HBP:Hid (BxPn (wr.alloc (.cells #[.string p.nm,.int .i64 p.a,.int .i64 p.b,.int .i64 p.c] 129)).drew wr.heap.size p):=(qL _ _).drew (BxPn.new rfl _);have hne:u0.ownBlock≠some wr.heap.size:=fun e=>by have:=(World.ownsRow.lt HLU.out.1.1 _ e).2;omega
    have HNE:=aB hne;clear hcs hne
    go_wp2_with fail
    go_region_held3 (fun w'=>w'.cell? ⟨wr.heap.size,0,none⟩=some (.string p.nm)∧w'.cell? ⟨wr.heap.size,1,none⟩=some (.int .i64 p.a)∧w'.cell? ⟨wr.heap.size,2,none⟩=some (.int .i64 p.b)∧w'.cell? ⟨wr.heap.size,3,none⟩=some (.int .i64 p.c)) (go_keep)
     (first
       |(go_at_call 125;refine (HP1.out _ HLB.out.2.1).mono ?_;rintro e w3 ⟨rfl,ok⟩;have HL3:=aB (HLB.out.below ok);obtain ⟨⟨q0,q1,q2,q3⟩,q4⟩:=qL _ _ _ _ HBP.out ok;clear ok)
       |(refine rY (w0:=w0) (w1:=W1) (vl:=vl) (v:=u0) (ps:=ps++qs) rfl (.tmp 16) (.tmp 23) rfl rfl HL3.out (lU p) rfl _ (TU p) rfl rfl rfl HLN.out ?_;intro v4 w4 hu4 hfr;have HU4:=aB hu4;have r0:=(hfr _ 0 q4 HNE.out).trans q0;have r1:=(hfr _ 1 q4 HNE.out).trans q1;have r2:=(hfr _ 2 q4 HNE.out).trans q2;have r3:=(hfr _ 3 q4 HNE.out).trans q3;clear hu4 hfr q0 q1 q2 q3))
    all_goals go_wp2
    all_goals exact ⟨⟨k+1,qs++[(_,lU p)],by omega,by go_num,by simp;exact HQL.out,by rw [←List.append_assoc];exact HU4.out,by rw [List.map_append,HTK.out,HQS.out];rfl⟩,by simp [intOf];omega⟩
  · obtain rfl:k=n.cx.length:=by omega
    rw [List.take_length] at HQS;obtain ⟨⟨z0,z1,z2,z3,z4,z5⟩,z6⟩:=HKN.out _ _ _ HLU.out;clear y0 y1 y2 y3 y4 y5
    go_wp2_with fail
    go_loopw [0,29] (fun u i wr=>∃ (j:Nat) (rs:List (Value×List Bs)),j≤n.ed.length∧i= .int .i64 j∧rs.length=j∧LU w0 W1 vl u (ps++qs++rs) wr∧rs.map (·.2)=(n.ed.take j).map mB) (fun _ i _=>n.ed.length - (intOf i).toNat)
    case atStart=>exact ⟨0,[],Nat.zero_le _,rfl,rfl,by rw [List.append_nil];exact HLU.out,rfl⟩
    case round=>
     obtain ⟨j,rs,hk,rfl,hql,hlu,hqs⟩:=hrel;have HMU:=aB hlu;have HRS:=aB hqs;have HMN:Hid ((ps++qs++rs).length≤1000000):=by unfold Hid;have:=HQL.out;rw [List.length_append,List.length_append];omega
     have HRL:=aB hql;clear hlu hqs hql
     by_cases hlt:j<n.ed.length
     · have hki:(j:Int)<(n.ed.length:Int):=by omega
       obtain ⟨ad,cap,hsl,_,hcs⟩:=HED.out _ HMU.out.2.1;simp only [Value.slice.injEq,true_and] at hsl;obtain ⟨hsl,hcc⟩:=hsl;rw [←hsl] at hcs;clear hsl hcc
       obtain ⟨g,o,rfl,hg,hcs⟩:∃ g o,ae=some ⟨g,o,none⟩∧g<wr.heap.size∧∀ i (h:i<n.ed.length),EgIn wr g (o+i*2) n.ed[i]:=by
        rcases hcs with h|h
        · rw [h] at hlt;exact absurd hlt (Nat.not_lt_zero _)
        · exact h
       obtain ⟨⟨d0,d1⟩,_⟩:=hcs j hlt;have HP1:=aB (HIT.out _ (List.getElem_mem hlt));have HTK:Hid ((n.ed.take (j+1)).map mB=(n.ed.take j).map mB++[mB n.ed[j]]):=by unfold Hid;rw [List.take_succ_eq_append_getElem hlt,List.map_append];rfl
       generalize n.ed[j]=p at*;have HMB:Hid (LU w0 W1 vl u0 (ps++qs++rs) (wr.alloc (.cells #[.string p.lb,.int .i64 p.to] 62)).drew):=(HMU.out.below (aC _ _)).below (Below.refl _ _).drew;have HBP:Hid (BxEg (wr.alloc (.cells #[.string p.lb,.int .i64 p.to] 62)).drew wr.heap.size p):=(wL _ _).drew (BxEg.new rfl _);have hne:u0.ownBlock≠some wr.heap.size:=fun e=>by have:=(World.ownsRow.lt HMU.out.1.1 _ e).2;omega
       have HNE:=aB hne;clear hcs hne
       go_wp2_with fail
       go_region_held3 (fun w'=>w'.cell? ⟨wr.heap.size,0,none⟩=some (.string p.lb)∧w'.cell? ⟨wr.heap.size,1,none⟩=some (.int .i64 p.to)) (go_keep)
        (first
          |(go_at_call 170;refine (HP1.out _ HMB.out.2.1).mono ?_;rintro e w3 ⟨rfl,ok⟩;have HL3:=aB (HMB.out.below ok);obtain ⟨⟨q0,q1⟩,q4⟩:=wL _ _ _ _ HBP.out ok;clear ok)
          |(refine rY (w0:=w0) (w1:=W1) (vl:=vl) (v:=u0) (ps:=ps++qs++rs) rfl (.tmp 33) (.tmp 40) rfl rfl HL3.out (mB p) rfl _ (TV p) rfl rfl rfl HMN.out ?_;intro v4 w4 hu4 hfr;have HU4:=aB hu4;have r0:=(hfr _ 0 q4 HNE.out).trans q0;have r1:=(hfr _ 1 q4 HNE.out).trans q1;clear hu4 hfr q0 q1))
       all_goals go_wp2
       all_goals exact ⟨⟨j+1,rs++[(_,mB p)],by omega,by go_num,by simp;exact HRL.out,by rw [←List.append_assoc];exact HU4.out,by rw [List.map_append,HTK.out,HRS.out];rfl⟩,by simp [intOf];omega⟩
     · obtain rfl:j=n.ed.length:=by omega
       rw [List.take_length] at HRS
       go_wp2
       go_ret;exact ⟨_,qs++rs,rfl,HFR.out _ _ _ (by rw [←List.append_assoc];exact HMU.out),by rw [List.map_append,HQS.out,HRS.out];rfl⟩
def jJ (n:Nd):List Bs:=[[110,111,100,101],n.nm.data.toList,bsV n.a n.b n.c]
def eX (r:List Nd):List (List Bs):=r.flatMap fun n=>jJ n::dG n
def kH:List Nd→List (List Bs)
 |[]=>[]
 |n::r=>dG n++eX r
def YH:List (List Bs):=[[[108,111,99,107]],[[114,111,111,116]]]
def kI (G:List Nd):List (List Bs):=YH++kH G
def kX (G:List Nd):ByteArray:=ba (aM (kI G))
theorem wP (r:List Nd) (n:Nd):eX (r++[n])=eX r++(jJ n::dG n):=by simp [eX]
theorem IE {G:List Nd} {k:Nat} (hk:k+1<G.length):kH (G.take (k+1+1))=kH (G.take (k+1))++(jJ G[k+1]::dG G[k+1]):=by
 cases G with
 |nil=>cases hk
 |cons n r=>
  have hk':k<r.length:=by simpa using hk
  have e:eX (r.take (k+1))=eX (r.take k)++(jJ r[k]::dG r[k]):=by rw [List.take_succ_eq_append_getElem hk',wP]
  simp [kH,e]
theorem MU {G:List Nd} (hk:0<G.length):kH (G.take (0+1))=dG G[0]:=by
 cases G with
 |nil=>cases hk
 |cons n r=>simp [kH,eX]
theorem wQ {s:Bs} (h:aK s=true):isW s=true:=by
 unfold aK at h;rw [Bool.and_eq_true,Bool.and_eq_true] at h
 have h1:s.all wB=true:=List.all_eq_true.2 fun b hb=>by
  have:=List.all_eq_true.1 h.1.2 b hb
  unfold Sc.nmB Sc.ltB Sc.dgB at this;unfold wB
  simp at this ⊢
  omega
 cases s with
 |nil=>simp [Sc.EZ] at h
 |cons b r=>unfold isW;rw [h1];rfl
theorem wR {s:Bs} (h:aK s=true):s.length≤16:=by
 unfold aK at h;simp only [Bool.and_eq_true,decide_eq_true_eq] at h;exact h.2
theorem IF {n:Int} (h0:0≤n):isW (Lib.itoa n)=true:=by
 rw [gC h0];refine Sc.BH (List.all_eq_true.2 fun b hb=> ?_) (oE _)
 have:=dH _ b hb
 unfold wB
 simp
 omega
theorem qN {n:Int} (h0:0≤n) (h1:n≤999):(Lib.itoa n).length≤3:=by
 have:=eI h0 h1
 rwa [dT] at this
theorem QB {a b c:Int} (h:bB a b c=true):isW (bsV a b c)=true:=by
 unfold bsV;rw [iW h];obtain ⟨a0,a1,b0,b1,c0,c1⟩:=dR h;refine Sc.BH ?_ (by simp)
 have dg:∀ {n:Int},0≤n→(Lib.itoa n).all wB=true:=fun {n} h0=>by
  have:=IF h0
  unfold isW at this;rw [Bool.and_eq_true] at this;exact this.1
 rw [List.all_append,List.all_cons,List.all_append,List.all_cons,dg a0,dg b0,dg c0];decide
theorem QC {a b c:Int} (h:bB a b c=true):(bsV a b c).length≤11:=by
 unfold bsV;rw [iW h];obtain ⟨a0,a1,b0,b1,c0,c1⟩:=dR h;have za:=qN a0 a1;have zb:=qN b0 b1;have zc:=qN c0 c1;simp only [List.length_append,List.length_cons];omega
def OkLn (k:Nat) (L:List (List Bs)):Prop:=L.all isL=true∧(aM L).length≤k
theorem OkLn.app {k m:Nat} {L M:List (List Bs)} (h:OkLn k L) (h':OkLn m M):OkLn (k+m) (L++M):=by
 refine ⟨by rw [List.all_append,h.1,h'.1];rfl,?_⟩
 have:aM (L++M)=aM L++aM M:=by simp [aM]
 have h1:=h.2;have h2:=h'.2;rw [this,List.length_append];omega
theorem OkLn.more {k m:Nat} {L:List (List Bs)} (h:OkLn k L) (hk:k≤m):OkLn m L:=⟨h.1,Nat.le_trans h.2 hk⟩
theorem YI {x y z:Bs} (hx:isW x=true) (hy:isW y=true) (hz:isW z=true) {k:Nat} (hl:x.length+(y.length+z.length)+3≤k):isL [x,y,z]=true∧(aW [x,y,z]).length≤k:=by
 refine ⟨by unfold isL;simp [hx,hy,hz],?_⟩;simp only [aW,List.length_append,List.length_cons,List.length_nil];omega
theorem OkLn.of {α:Type} {k:Nat} {f:α→List Bs}:∀ {L:List α},(∀ x ∈ L,isL (f x)=true∧(aW (f x)).length≤k)→OkLn (k*L.length) (L.map f)
 |[],_=>⟨rfl,by simp [aM]⟩
 |x::L,h=>by
  have h1:=h x (by simp);have ih:=OkLn.of (f:=f) (L:=L) fun y hy=>h y (by simp [hy])
  have h2:=h1.2;have h3:=ih.2;refine ⟨by rw [List.map_cons,List.all_cons,h1.1,ih.1];rfl,?_⟩;rw [List.map_cons,Sc.oS,List.length_append,List.length_cons,Nat.mul_succ];omega
theorem IG:∀ {q:ByteArray} {L:List Pn},wK q L=true→∀ p ∈ L,aK p.nm.data.toList=true∧bB p.a p.b p.c=true
 |_,[],_,p,hp=>by cases hp
 |q,x::r,h,p,hp=>by
  unfold wK yK at h;simp only [Bool.and_eq_true] at h
  rcases List.mem_cons.1 hp with rfl|hp
  · exact ⟨h.1.1.1,h.1.2⟩
  · exact IG h.2 p hp
theorem wS {n:Int}:∀ {q:ByteArray} {L:List Eg},tN n q L=true→∀ e ∈ L,aK e.lb.data.toList=true∧1≤e.to∧e.to<n
 |_,[],_,e,he=>by cases he
 |q,x::r,h,e,he=>by
  unfold tN yK at h;simp only [Bool.and_eq_true,decide_eq_true_eq] at h
  rcases List.mem_cons.1 he with rfl|he
  · exact ⟨h.1.1.1.1,h.1.1.2,h.1.2⟩
  · exact wS h.2 e he
def Ew (n:Nd):Prop:=(n.cx.length≤128∧∀ p ∈ n.cx,aK p.nm.data.toList=true∧bB p.a p.b p.c=true)∧(n.ed.length≤128∧∀ e ∈ n.ed,aK e.lb.data.toList=true∧0≤e.to∧e.to≤999)
theorem AG {n:Nd} (h:Ew n):OkLn 7424 (dG n):=by
 have hp:OkLn (34*n.cx.length) (n.cx.map lU):=OkLn.of fun p hp=>by
  obtain ⟨h1,h2⟩:=h.1.2 p hp;have k1:=wR h1;have k2:=QC h2;exact YI (by decide) (wQ h1) (QB h2) (by rw [show ([119,105,116,104]:Bs).length=4 from rfl];omega)
 have he:OkLn (24*n.ed.length) (n.ed.map mB):=OkLn.of fun e he=>by
  obtain ⟨h1,h2,h3⟩:=h.2.2 e he;have k1:=wR h1;have k2:=qN h2 h3;exact YI (by decide) (wQ h1) (IF h2) (by rw [show ([116,111]:Bs).length=2 from rfl];omega)
 have h1:=h.1.1;have h2:=h.2.1;exact (hp.app he).more (by omega)
theorem oT {G:List Nd} (h:eO G=true):G.length≤128∧0<G.length∧(∀ n ∈ G,Ew n)∧∀ i (hi:i<G.length),0<i→aK G[i].nm.data.toList=true∧bB G[i].a G[i].b G[i].c=true:=by
 cases G with
 |nil=>cases h
 |cons n r=>
  unfold eO at h;simp only [Bool.and_eq_true,decide_eq_true_eq,List.all_eq_true] at h;obtain ⟨⟨⟨h1,h2⟩,h3⟩,h4⟩:=h
  have cx:∀ m ∈ n::r,m.cx.length≤128∧∀ p ∈ m.cx,aK p.nm.data.toList=true∧bB p.a p.b p.c=true:=fun m hm=>by
   rcases List.mem_cons.1 hm with rfl|hm
   · unfold jI at h2
     simp only [Bool.and_eq_true,decide_eq_true_eq] at h2
     have:m.cx=[]:=List.eq_nil_of_length_eq_zero h2.2
     rw [this];exact ⟨by simp,fun p hp=>by cases hp⟩
   · have:=h3 m hm
     unfold eG kW at this;simp only [Bool.and_eq_true,decide_eq_true_eq] at this;exact ⟨this.2.1,IG this.2.2⟩
  refine ⟨h1,by simp,fun m hm=>⟨cx m hm,?_⟩,fun i hi h0=> ?_⟩
  · have:=h4 m hm
    unfold dE at this;simp only [Bool.and_eq_true,decide_eq_true_eq] at this;refine ⟨this.1,fun e he=> ?_⟩;obtain ⟨k1,k2,k3⟩:=wS this.2 e he;exact ⟨k1,by omega,by omega⟩
  · cases i with
    |zero=>cases h0
    |succ i=>
     have hi':i<r.length:=by simpa using hi
     have:=h3 r[i] (List.getElem_mem hi')
     unfold eG at this;simp only [Bool.and_eq_true] at this;exact this.1
theorem QD:∀ {r:List Nd},(∀ n ∈ r,Ew n∧aK n.nm.data.toList=true∧bB n.a n.b n.c=true)→OkLn (7458*r.length) (eX r)
 |[],_=>⟨rfl,by simp [eX,aM]⟩
 |n::r,h=>by
  obtain ⟨h1,h2,h3⟩:=h n (by simp);have i1:=QD (r:=r) fun m hm=>h m (by simp [hm])
  have k1:=AG h1;have e:eX (n::r)=([n].map jJ++dG n)++eX r:=by simp [eX]
  have hn:=wR h2;have hb:=QC h3
  have hl:OkLn (34*[n].length) ([n].map jJ):=OkLn.of fun x hx=>by
   obtain rfl:=List.mem_singleton.1 hx;exact YI (by decide) (wQ h2) (QB h3) (by rw [show ([110,111,100,101]:Bs).length=4 from rfl];omega)
  rw [e];refine ((hl.app k1).app i1).more ?_;simp only [List.length_cons,List.length_nil];omega
theorem AH {G:List Nd} (h:eO G=true):(kI G).all isL=true∧(aM (kI G)).length≤1048576:=by
 obtain ⟨h1,h2,h3,h4⟩:=oT h;have hh:OkLn 10 YH:=⟨by decide,by decide⟩;cases G with
 |nil=>cases h2
 |cons n r=>
  have k1:=AG (h3 n (by simp))
  have i1:=QD (r:=r) fun m hm=>by
   obtain ⟨i,hi,rfl⟩:=List.getElem_of_mem hm
   have:=h4 (i+1) (by simpa using hi) (by omega)
   exact ⟨h3 _ (by simp),by simpa using this⟩
  have hall:OkLn (10+(7424+7458*r.length)) (kI (n::r)):=OkLn.app hh (OkLn.app k1 i1);refine ⟨hall.1,Nat.le_trans hall.2 ?_⟩;simp only [List.length_cons] at h1;omega
theorem LU.trans {w0 w1 w2 w3:World} {vl v u:Value} {ps qs:List (Value×List Bs)} (h:LU w0 w1 vl v ps w2) (k:LU w0 w2 v u qs w3):LU w0 w1 vl u qs w3:=by
 refine ⟨k.1,k.2.1,⟨k.2.2.1.os.trans h.2.2.1.os,k.2.2.1.tape.trans h.2.2.1.tape,k.2.2.1.output.trans h.2.2.1.output,Nat.le_trans h.2.2.1.size k.2.2.1.size,fun i hi hn=> ?_⟩,?_⟩
 · refine (k.2.2.1.block i (Nat.lt_of_lt_of_le hi h.2.2.1.size) fun e=> ?_).trans (h.2.2.1.block i hi hn)
   rcases h.2.2.2 with e2|⟨j,e2,hj⟩
   · exact hn (by rw [←e2];exact e)
   · rw [e2] at e
     have:=Option.some.inj e
     omega
 · rcases k.2.2.2 with e|⟨j,e,hj⟩
   · rw [e];exact h.2.2.2
   · exact Or.inr ⟨j,e,Nat.le_trans h.2.2.1.size hj⟩
theorem LL.two {w0 w:World} (hw:w0.heap.size≤w.heap.size):LL (((w.alloc (.cells #[.string ⟨#[108,111,99,107]⟩] 9)).alloc (.cells #[.string ⟨#[114,111,111,116]⟩] 9)).alloc (.cells #[.slice (some ⟨w.heap.size,0,none⟩) 1 1,.slice (some ⟨w.heap.size+1,0,none⟩) 1 1] 50)) w0.heap.size (.slice (some ⟨w.heap.size+2,0,none⟩) 2 2)
 [(.slice (some ⟨w.heap.size,0,none⟩) 1 1,[[108,111,99,107]]),(.slice (some ⟨w.heap.size+1,0,none⟩) 1 1,[[114,111,111,116]])]:=by
 have b0:(((w.alloc (.cells #[.string ⟨#[108,111,99,107]⟩] 9)).alloc (.cells #[.string ⟨#[114,111,111,116]⟩] 9)).alloc (.cells #[.slice (some ⟨w.heap.size,0,none⟩) 1 1,.slice (some ⟨w.heap.size+1,0,none⟩) 1 1] 50)).heap[w.heap.size]? =some (.cells #[.string ⟨#[108,111,99,107]⟩] 9 (0,0)):=by
  show ((((w.heap.push _).push _).push _))[w.heap.size]? =_;rw [Array.getElem?_push,if_neg (by simp;omega),Array.getElem?_push,if_neg (by simp),Array.getElem?_push,if_pos rfl]
 have b1:(((w.alloc (.cells #[.string ⟨#[108,111,99,107]⟩] 9)).alloc (.cells #[.string ⟨#[114,111,111,116]⟩] 9)).alloc (.cells #[.slice (some ⟨w.heap.size,0,none⟩) 1 1,.slice (some ⟨w.heap.size+1,0,none⟩) 1 1] 50)).heap[w.heap.size+1]? =some (.cells #[.string ⟨#[114,111,111,116]⟩] 9 (0,0)):=by
  show ((((w.heap.push _).push _).push _))[w.heap.size+1]? =_;rw [Array.getElem?_push,if_neg (by simp),Array.getElem?_push,if_pos (by simp)]
 have b2:(((w.alloc (.cells #[.string ⟨#[108,111,99,107]⟩] 9)).alloc (.cells #[.string ⟨#[114,111,111,116]⟩] 9)).alloc (.cells #[.slice (some ⟨w.heap.size,0,none⟩) 1 1,.slice (some ⟨w.heap.size+1,0,none⟩) 1 1] 50)).heap[w.heap.size+2]? =some (.cells #[.slice (some ⟨w.heap.size,0,none⟩) 1 1,.slice (some ⟨w.heap.size+1,0,none⟩) 1 1] 50 (0,0)):=by
  show ((((w.heap.push _).push _).push _))[w.heap.size+2]? =_;rw [Array.getElem?_push,if_pos (by simp)]
 refine ⟨⟨rfl,Or.inr ⟨w.heap.size+2,2,_,rfl,by omega,b2,by simp,by decide,rfl,rfl⟩⟩,fun p hp=> ?_,?_,fun p hp=> ?_,fun e=>by cases e⟩
 · simp only [List.mem_cons,List.not_mem_nil,or_false] at hp
   rcases hp with rfl|rfl
   · exact ⟨⟨rfl,Or.inr ⟨w.heap.size,1,_,rfl,hw,b0,by simp,by decide,rfl,rfl⟩⟩,by simp⟩
   · exact ⟨⟨rfl,Or.inr ⟨w.heap.size+1,1,_,rfl,by omega,b1,by simp,by decide,rfl,rfl⟩⟩,by simp⟩
 · simp [Value.ownBlock]
 · simp only [List.mem_cons,List.not_mem_nil,or_false] at hp
   rcases hp with rfl|rfl<;>simp [Value.ownBlock]
theorem MV (n:Nd):(#[.string ⟨#[110,111,100,101]⟩,.string n.nm,.string (aL n.a n.b n.c)]:Array Value).toList=lD (jJ n):=by
 simp only [lD,jJ,bsV,List.map_cons,List.map_nil,Sc.kL];rfl
def prT (G:List Nd):ByteArray:=if eO G=true then kX G else ⟨#[]⟩
def prE (G:List Nd):Int:=if eO G=true then 0 else 33
set_option maxHeartbeats 12800000 in
theorem wT {G:List Nd} {v:Value} {w:World} (h:NodesAt w v G) (hs:SpellAll w):
 Calls Tryz.prog 75 #[.agg #[v]] w fun e w'=>e= .returned (.tuple #[.string (prT G),.int .i64 (prE G)])∧Below w.heap.size w w':=by
 have HMY:Hid (∀ W,Below w.heap.size w W→Calls Tryz.prog 62 #[.agg #[v]] W fun e w'=>e= .returned (.bool (eO G))∧Below W.heap.size W w'):=fun W hb=>wO (h.below hb)
 have HB0:Hid (Below w.heap.size w (w.alloc (.cells #[v] 27))∧BxG (w.alloc (.cells #[v] 27)) w.heap.size v):=⟨aC _ _,BxG.new rfl _⟩;have HKB:Hid (KeepP fun W=>Below w.heap.size w W∧BxG W w.heap.size v):=(aG w).and (tZ _ _);have HNO:Hid (eO G=false→prT G=⟨#[]⟩∧prE G=33):=fun h=>by unfold prT prE;rw [if_neg (by rw [h];decide),if_neg (by rw [h];decide)];exact ⟨rfl,rfl⟩
 have HYE:Hid (eO G=true→prT G=kX G∧prE G=0):=fun h=>by unfold prT prE;rw [if_pos h,if_pos h];exact ⟨rfl,rfl⟩
 have HND:=aB h;obtain ⟨ad,cap,rfl,hcap,_⟩:=h;cases hm:eO G
 · obtain ⟨e1,e2⟩:=HNO.out hm
   rw [hm] at HMY;rw [e1,e2];clear e1 e2 hm HNO HYE
   go_enter Tryz.func75,Tryz.ntmps75
   go_wp2_with (go_at_call 62;refine (HMY.out _ HB0.out.1).mono ?_;rintro e w2 ⟨rfl,ok⟩;have HB2:=aB (aA HB0.out.1 ok);clear ok)
   go_ret2;exact ⟨rfl,HB2.out⟩
 · obtain ⟨e1,e2⟩:=HYE.out hm
   obtain ⟨g1,g2,g3,g4⟩:=oT hm;have HG3:=aB g3;have HG4:=aB g4;have HLO:=aB (AH hm);have HSP:=aB hs;rw [hm] at HMY;rw [e1,e2];clear e1 e2 hm HNO HYE g3 g4 hs
   go_enter Tryz.func75,Tryz.ntmps75
   go_wp2_with (go_at_call 62;refine (HMY.out _ HB0.out.1).mono ?_;rintro e w2 ⟨rfl,ok⟩;have HB2:=aB (HKB.out _ _ HB0.out ok);obtain ⟨y0,y1⟩:=HB2.out.2;have y0':=((aA (aA (aC w2 (.cells #[.string ⟨#[108,111,99,107]⟩] 9)) (aC _ (.cells #[.string ⟨#[114,111,111,116]⟩] 9))) (aC _ (.cells #[.slice (some ⟨w2.heap.size,0,none⟩) 1 1,.slice (some ⟨w2.heap.size+1,0,none⟩) 1 1] 50))).cell (p:=⟨w.heap.size,0,none⟩) y1).trans y0;clear ok)
   have HSA:Hid (LU w (((w2.alloc (.cells #[.string ⟨#[108,111,99,107]⟩] 9)).alloc (.cells #[.string ⟨#[114,111,111,116]⟩] 9)).alloc (.cells #[.slice (some ⟨w2.heap.size,0,none⟩) 1 1,.slice (some ⟨w2.heap.size+1,0,none⟩) 1 1] 50)) (.slice (some ⟨w2.heap.size+2,0,none⟩) 2 2) (.slice (some ⟨w2.heap.size+2,0,none⟩) 2 2) [(Value.slice (some ⟨w2.heap.size,0,none⟩) 1 1,[[108,111,99,107]]),(Value.slice (some ⟨w2.heap.size+1,0,none⟩) 1 1,[[114,111,111,116]])] (((w2.alloc (.cells #[.string ⟨#[108,111,99,107]⟩] 9)).alloc (.cells #[.string ⟨#[114,111,111,116]⟩] 9)).alloc (.cells #[.slice (some ⟨w2.heap.size,0,none⟩) 1 1,.slice (some ⟨w2.heap.size+1,0,none⟩) 1 1] 50))):=LU.start (LL.two HB2.out.1.size) (aA HB2.out.1 (aA (aA (aC _ _) (aC _ _)) (aC _ _)))
   obtain ⟨W1,hW1⟩:∃ W1,W1=(((w2.alloc (.cells #[.string ⟨#[108,111,99,107]⟩] 9)).alloc (.cells #[.string ⟨#[114,111,111,116]⟩] 9)).alloc (.cells #[.slice (some ⟨w2.heap.size,0,none⟩) 1 1,.slice (some ⟨w2.heap.size+1,0,none⟩) 1 1] 50)):=⟨_,rfl⟩;obtain ⟨V0,hV0⟩:∃ V0,V0=Value.slice (some ⟨w2.heap.size+2,0,none⟩) 2 2:=⟨_,rfl⟩;obtain ⟨PS,hPS⟩:∃ PS:List (Value×List Bs),PS=[(Value.slice (some ⟨w2.heap.size,0,none⟩) 1 1,[[108,111,99,107]]),(Value.slice (some ⟨w2.heap.size+1,0,none⟩) 1 1,[[114,111,111,116]])]:=⟨_,rfl⟩;have HSB:Hid (LU w W1 V0 (.slice (some ⟨w2.heap.size+2,0,none⟩) 2 2) PS (((w2.alloc (.cells #[.string ⟨#[108,111,99,107]⟩] 9)).alloc (.cells #[.string ⟨#[114,111,111,116]⟩] 9)).alloc (.cells #[.slice (some ⟨w2.heap.size,0,none⟩) 1 1,.slice (some ⟨w2.heap.size+1,0,none⟩) 1 1] 50))):=by unfold Hid;rw [hW1,hV0,hPS];exact HSA.out
   have HPL:Hid (PS.length=2∧PS.map (·.2)=YH):=by unfold Hid;rw [hPS];exact ⟨rfl,rfl⟩
   clear HSA hW1 hV0 hPS y0 y0'
   go_loopw [4,16] (fun u i wr=>∃ (k:Nat) (qs:List (Value×List Bs)),k≤G.length∧i= .int .i64 k∧qs.length≤300*k∧LU w W1 V0 u (PS++qs) wr∧qs.map (·.2)=kH (G.take k)) (fun _ i _=>G.length - (intOf i).toNat)
   case atStart=>exact ⟨0,[],Nat.zero_le _,rfl,by simp,by rw [List.append_nil];exact HSB.out,rfl⟩
   case round=>
    obtain ⟨k,qs,hk,rfl,hql,hlu,hqs⟩:=hrel;have HLU:=aB hlu;have HQS:=aB hqs;have HLN:Hid ((PS++qs).length≤100000):=by unfold Hid;have:=HPL.out.1;rw [List.length_append];omega
    have HQL:=aB hql;clear hlu hqs hql
    by_cases hlt:k<G.length
    · have hki:(k:Int)<(G.length:Int):=by omega
      obtain ⟨ad',cap',hsl,_,hcs⟩:=HND.out;simp only [Value.slice.injEq,true_and] at hsl;obtain ⟨hsl,hcc⟩:=hsl;rw [←hsl] at hcs;clear hsl hcc
      obtain ⟨g,o,rfl,hg,hcs⟩:∃ g o,ad=some ⟨g,o,none⟩∧g<w.heap.size∧∀ i (h:i<G.length),∃ vc ve,NdIn w g (o+i*6) G[i] vc ve:=by
       rcases hcs with h|h
       · rw [h] at hlt;exact absurd hlt (Nat.not_lt_zero _)
       · exact h
      obtain ⟨vc,ve,⟨c0,c1,c2,c3,c4,c5⟩,⟨hp,he⟩,_⟩:=hcs k hlt;obtain ⟨ac,cc,rfl⟩:=hp.sl;obtain ⟨ae,ce,rfl⟩:=he.sl;have d0:=(HLU.out.2.1.cell (p:=⟨g,o+k*6,none⟩) hg).trans c0;have d1:=(HLU.out.2.1.cell (p:=⟨g,o+k*6+1,none⟩) hg).trans c1;have d2:=(HLU.out.2.1.cell (p:=⟨g,o+k*6+2,none⟩) hg).trans c2;have d3:=(HLU.out.2.1.cell (p:=⟨g,o+k*6+3,none⟩) hg).trans c3;have d4:=(HLU.out.2.1.cell (p:=⟨g,o+k*6+4,none⟩) hg).trans c4;have d5:=(HLU.out.2.1.cell (p:=⟨g,o+k*6+5,none⟩) hg).trans c5;have hnd:=HG3.out _ (List.getElem_mem hlt);have HVV:Hid (0<k→bB G[k].a G[k].b G[k].c=true):=fun h0=>(HG4.out k hlt h0).2
      have HT0:Hid (k=0→kH (G.take (k+1))=dG G[k]):=fun h0=>by subst h0;exact MU hlt
      have HT1:Hid (0<k→kH (G.take (k+1))=kH (G.take k)++(jJ G[k]::dG G[k])):=fun h0=>by
       obtain ⟨j,rfl⟩:∃ j,k=j+1:=⟨k - 1,by omega⟩;exact IE hlt
      have HLL2:Hid ((dG G[k]).length≤256):=by
       unfold Hid;have h1:=hnd.1.1;have h2:=hnd.2.1;simp [dG];omega
      generalize G[k]=m at*;have HAP:Hid (∀ W vl ps,Below w.heap.size w W→LL W w.heap.size vl ps→ps.length≤500000→Calls Tryz.prog 126 #[vl,.agg #[.string m.nm,.int .i64 m.a,.int .i64 m.b,.int .i64 m.c,.slice ac m.cx.length cc,.slice ae m.ed.length ce]] W fun e w'=>∃ v qs,e= .returned v∧LU w W vl v (ps++qs) w'∧qs.map (·.2)=dG m):=fun W vl ps hb hll hl=>tO hb hll hp he HSP.out (fun p hp=>(hnd.1.2 p hp).2) (fun e he=>(hnd.2.2 e he).2) hl (by have:=hnd.1.1;omega) (by have:=hnd.2.1;omega)
      have HLB:Hid (LU w W1 V0 u4 (PS++qs) (wr.alloc (.cells #[.string m.nm,.int .i64 m.a,.int .i64 m.b,.int .i64 m.c,.slice ac m.cx.length cc,.slice ae m.ed.length ce] 60))):=HLU.out.below (aC _ _);have HBX:Hid (BxNd (wr.alloc (.cells #[.string m.nm,.int .i64 m.a,.int .i64 m.b,.int .i64 m.c,.slice ac m.cx.length cc,.slice ae m.ed.length ce] 60)) wr.heap.size m (.slice ac m.cx.length cc) (.slice ae m.ed.length ce)):=BxNd.new rfl _ _ _;have hne:u4.ownBlock≠some wr.heap.size:=fun e=>by have:=(World.ownsRow.lt HLU.out.1.1 _ e).2;omega
      have HNE:=aB hne;clear hcs c0 c1 c2 c3 c4 c5 hp he hnd hne
      by_cases hk0:k=0
      · have HTT:=aB (HT0.out hk0)
        have hgt:decide ((0:Int)<(k:Int))=false:=decide_eq_false (by omega);have hgt2:decide (0<k)=false:=decide_eq_false (by omega);have hgt3:¬ 0<k:=by omega
        have HQ0:Hid (qs.length=0):=by have:=HQL.out;unfold Hid;omega
        clear HT0 HT1 HVV hk0
        go_wp2_with (go_at_call 126;refine (HAP.out _ _ _ HLB.out.2.1 HLB.out.1 (Nat.le_trans HLN.out (by decide))).mono ?_;rintro e w5 ⟨v5,rs,rfl,hu5,hq5⟩;have HU5:=aB (HLB.out.trans hu5);have HQ5:=aB hq5;clear hu5 hq5)
        refine ⟨⟨k+1,qs++rs,by omega,by go_num,?_,by rw [←List.append_assoc];exact HU5.out,?_⟩,by simp [intOf];omega⟩
        · have h1:=HLL2.out
          have h2:=congrArg List.length HQ5.out;rw [List.length_map] at h2;have h3:=HQL.out;rw [List.length_append];omega
        · rw [List.map_append,HQ5.out,HTT.out,List.eq_nil_of_length_eq_zero HQ0.out]
          rfl
      · have HTT:=aB (HT1.out (by omega))
        have hgt:decide ((0:Int)<(k:Int))=true:=decide_eq_true (by omega);have hgt2:(0:Int)<(k:Int):=by omega
        have HPV:Hid (∀ W,Below w.heap.size w W→Calls Tryz.prog 125 #[.agg #[.int .i64 m.a,.int .i64 m.b,.int .i64 m.c]] W fun e w'=>e= .returned (.string (aL m.a m.b m.c))∧Below W.heap.size W w'):=fun W hb=>HSP.out.print (HVV.out (by omega)) W hb
        have HLC:Hid (LU w W1 V0 u4 (PS++qs) (wr.alloc (.cells #[.string m.nm,.int .i64 m.a,.int .i64 m.b,.int .i64 m.c,.slice ac m.cx.length cc,.slice ae m.ed.length ce] 60)).drew):=HLB.out.below (Below.refl _ _).drew;have HBY:Hid (BxNd (wr.alloc (.cells #[.string m.nm,.int .i64 m.a,.int .i64 m.b,.int .i64 m.c,.slice ac m.cx.length cc,.slice ae m.ed.length ce] 60)).drew wr.heap.size m (.slice ac m.cx.length cc) (.slice ae m.ed.length ce)):=(wN _ _ _ _).drew HBX.out;clear HT0 HT1 HVV
        go_wp2_with fail
        go_region_held3 (fun w'=>w'.cell? ⟨wr.heap.size,0,none⟩=some (.string m.nm)∧w'.cell? ⟨wr.heap.size,1,none⟩=some (.int .i64 m.a)∧w'.cell? ⟨wr.heap.size,2,none⟩=some (.int .i64 m.b)∧w'.cell? ⟨wr.heap.size,3,none⟩=some (.int .i64 m.c)) (go_keep)
         (first
           |(go_at_call 125;refine (HPV.out _ HLC.out.2.1).mono ?_;rintro e w3 ⟨rfl,ok⟩;have HL3:=aB (HLC.out.below ok);obtain ⟨⟨q0,q1,q2,q3,q4,q5⟩,q6⟩:=wN _ _ _ _ _ _ HBY.out ok;clear ok)
           |(refine rY (w0:=w) (w1:=W1) (vl:=V0) (v:=u4) (ps:=PS++qs) rfl (.tmp 23) (.tmp 30) rfl rfl HL3.out (jJ m) rfl _ (MV m) rfl rfl rfl (Nat.le_trans HLN.out (by decide)) ?_;intro v4 w4 hu4 hfr;have HU4:=aB hu4;have r0:=(hfr _ 0 q6 HNE.out).trans q0;have r1:=(hfr _ 1 q6 HNE.out).trans q1;have r2:=(hfr _ 2 q6 HNE.out).trans q2;have r3:=(hfr _ 3 q6 HNE.out).trans q3;have r4:=(hfr _ 4 q6 HNE.out).trans q4;have r5:=(hfr _ 5 q6 HNE.out).trans q5;clear hu4 hfr q0 q1 q2 q3 q4 q5))
        all_goals go_wp2_with (go_at_call 126;refine (HAP.out _ _ _ HU4.out.2.1 HU4.out.1 (by have:=HLN.out;rw [List.length_append];simp at this ⊢;omega)).mono ?_;rintro e w5 ⟨v5,rs,rfl,hu5,hq5⟩;have HU5:=aB (HU4.out.trans hu5);have HQ5:=aB hq5;clear hu5 hq5)
        all_goals
         refine ⟨⟨k+1,qs++((_,jJ m)::rs),by omega,by go_num,?_,(by have:=HU5.out;rw [List.append_assoc,List.append_assoc] at this;exact this),?_⟩,by simp [intOf];omega⟩
         · have h1:=HLL2.out
           have h2:=congrArg List.length HQ5.out;rw [List.length_map] at h2;have h3:=HQL.out;rw [List.length_append,List.length_cons];omega
         · rw [List.map_append,List.map_cons,HQ5.out,HTT.out,HQS.out]
    · obtain rfl:k=G.length:=by omega
      rw [List.take_length] at HQS
      have HLA:Hid (Sc.LinesAt wr u4 (kI G)):=by
       have:=HLU.out.1.at
       rw [List.map_append,HPL.out.2,HQS.out] at this;exact this
      have HJN:Hid (Calls Tryz.prog 127 #[u4] wr fun e w'=>e= .returned (.tuple #[.string (kX G),.int .i64 0])∧Below wr.heap.size wr w'):=by
       have:=Sc.YG (Nat.le_trans HLO.out.2 (by decide)) HLA.out
       rw [(Sc.CQ HLO.out.1).1,(Sc.CQ HLO.out.1).2] at this;exact this
      go_wp2_with (go_at_call 127;refine HJN.out.mono ?_;rintro e w6 ⟨rfl,hb6⟩)
      go_ret2;exact ⟨rfl,aA HLU.out.2.1 hb6⟩
theorem _root_.Go.Proofs.YtmnhnofnlcbliaaGreatDoor.Env.toS {W:World} (h:Env W):Sc.EnvS W:={ tab:=h.tab,syn:=h.syn,rng:=h.rng }
def fI:List Bs→Pn×Bool
 |[x,y]=>(⟨ba x,eS (ba y),eT (ba y),eU (ba y)⟩,okP (ba y))
 |_=>(⟨⟨#[]⟩,0,0,0⟩,false)
def nU:List Bs→Eg×Bool
 |[x,y]=>(⟨ba x,Sc.lS y 127⟩,Sc.lT y 127)
 |_=>(⟨⟨#[]⟩,0⟩,false)
theorem Bt {ws:List Bs} (h:ws.length≠2):fI ws=(⟨⟨#[]⟩,0,0,0⟩,false):=by
 match ws,h with
 |[],_=>rfl
 |[_],_=>rfl
 |[_,_],h=>exact absurd rfl h
 |_::_::_::_,_=>rfl
theorem Bu {ws:List Bs} (h:ws.length≠2):nU ws=(⟨⟨#[]⟩,0⟩,false):=by
 match ws,h with
 |[],_=>rfl
 |[_],_=>rfl
 |[_,_],h=>exact absurd rfl h
 |_::_::_::_,_=>rfl
def BxPF (w:World) (N:Nat) (p:Pn):Prop:=BxPn w N p∧∀ i,i<4→w.frozen? ⟨N,i,none⟩=false
theorem eC (N:Nat) (p:Pn):KeepP fun w1=>BxPF w1 N p:=fun _ _ h hb=>⟨qL _ _ _ _ h.1 hb,fun i hi=>(hb.frozen (p:=⟨N,i,none⟩) h.1.2).trans (h.2 i hi)⟩
theorem BxPF.new {w:World} {N:Nat} (hN:w.heap.size=N) (p:Pn):BxPF (w.alloc (.cells #[.string p.nm,.int .i64 p.a,.int .i64 p.b,.int .i64 p.c] 129)) N p:=by
 refine ⟨BxPn.new hN _,fun i hi=> ?_⟩;subst hN
 simp
def BxEF (w:World) (N:Nat) (p:Eg):Prop:=BxEg w N p∧∀ i,i<2→w.frozen? ⟨N,i,none⟩=false
theorem YJ (N:Nat) (p:Eg):KeepP fun w1=>BxEF w1 N p:=fun _ _ h hb=>⟨wL _ _ _ _ h.1 hb,fun i hi=>(hb.frozen (p:=⟨N,i,none⟩) h.1.2).trans (h.2 i hi)⟩
theorem BxEF.new {w:World} {N:Nat} (hN:w.heap.size=N) (p:Eg):BxEF (w.alloc (.cells #[.string p.lb,.int .i64 p.to] 62)) N p:=by
 refine ⟨BxEg.new hN _,fun i hi=> ?_⟩;subst hN
 simp
theorem aJ {w:World} {N i j:Nat} {u x:Value} (h:i≠j) (hx:w.cell? ⟨N,j,none⟩=some x):(w.setCell ⟨N,i,none⟩ u).cell? ⟨N,j,none⟩=some x:=(World.cell?_setCell_other _ _ _ _ (fun e=>by cases e;exact h rfl)).trans hx
theorem set4 {w:World} {N:Nat} {x0 x1 x2 x3:Value} (j0:w.cell? ⟨N,0,none⟩=some x0) (j1:w.cell? ⟨N,1,none⟩=some x1) (j2:w.cell? ⟨N,2,none⟩=some x2) (j3:w.cell? ⟨N,3,none⟩=some x3) (u0 u1 u2 u3:Value):
 ((((w.setCell ⟨N,0,none⟩ u0).setCell ⟨N,1,none⟩ u1).setCell ⟨N,2,none⟩ u2).setCell ⟨N,3,none⟩ u3).cell? ⟨N,0,none⟩=some u0∧((((w.setCell ⟨N,0,none⟩ u0).setCell ⟨N,1,none⟩ u1).setCell ⟨N,2,none⟩ u2).setCell ⟨N,3,none⟩ u3).cell? ⟨N,1,none⟩=some u1∧
 ((((w.setCell ⟨N,0,none⟩ u0).setCell ⟨N,1,none⟩ u1).setCell ⟨N,2,none⟩ u2).setCell ⟨N,3,none⟩ u3).cell? ⟨N,2,none⟩=some u2∧((((w.setCell ⟨N,0,none⟩ u0).setCell ⟨N,1,none⟩ u1).setCell ⟨N,2,none⟩ u2).setCell ⟨N,3,none⟩ u3).cell? ⟨N,3,none⟩=some u3:=
 ⟨aJ (by decide) (aJ (by decide) (aJ (by decide) (World.cell?_setCell_same _ _ _ j0))),aJ (by decide) (aJ (by decide) (World.cell?_setCell_same _ _ _ (aJ (by decide) j1))),aJ (by decide) (World.cell?_setCell_same _ _ _ (aJ (by decide) (aJ (by decide) j2))),World.cell?_setCell_same _ _ _ (aJ (by decide) (aJ (by decide) (aJ (by decide) j3)))⟩
theorem MW {w:World} {N:Nat} {x0 x1:Value} (j0:w.cell? ⟨N,0,none⟩=some x0) (j1:w.cell? ⟨N,1,none⟩=some x1) (u0 u1:Value):
 ((w.setCell ⟨N,0,none⟩ u0).setCell ⟨N,1,none⟩ u1).cell? ⟨N,0,none⟩=some u0∧((w.setCell ⟨N,0,none⟩ u0).setCell ⟨N,1,none⟩ u1).cell? ⟨N,1,none⟩=some u1:=
 ⟨aJ (by decide) (World.cell?_setCell_same _ _ _ j0),World.cell?_setCell_same _ _ _ (aJ (by decide) j1)⟩
theorem dB {w w':World} {N B:Nat} {u0 u1 u2 u3:Value} (hN:B≤N) (h:Below B w w'):Below B w ((((w'.setCell ⟨N,0,none⟩ u0).setCell ⟨N,1,none⟩ u1).setCell ⟨N,2,none⟩ u2).setCell ⟨N,3,none⟩ u3):=
 ((((h.setCell (p:=⟨N,0,none⟩) hN _).setCell (p:=⟨N,1,none⟩) hN _).setCell (p:=⟨N,2,none⟩) hN _).setCell (p:=⟨N,3,none⟩) hN _)
theorem fL {w w':World} {N B:Nat} {u0 u1:Value} (hN:B≤N) (h:Below B w w'):Below B w ((w'.setCell ⟨N,0,none⟩ u0).setCell ⟨N,1,none⟩ u1):=(h.setCell (p:=⟨N,0,none⟩) hN _).setCell (p:=⟨N,1,none⟩) hN _
end Go.Proofs.YtmnhnofnlcbliaaGreatDoor.Lo
namespace Go.Proofs.YtmnhnofnlcbliaaGreatDoor
open Go.RowKit Go.Maps Go.WideMaps
set_option maxRecDepth 100000
abbrev stO (x1 x2 x3 x4 xg xt:Value) (pr:Bool):Obj:= .cells #[x1,x2,x3,x4,xg,xt,.bool pr] 32
structure LdQ (w0:World) (o:Obj) (L:List Fi) (c:Nat) (W:World):Prop where
 st:W.heap[w0.heap.size]? =some o
 box:W.cell? ⟨w0.heap.size+1+1,0,none⟩=some (.map (some (w0.heap.size+1)))
 size:w0.heap.size+3≤W.heap.size
 own:∃ n D,n≤c∧W.ownsMap Tryz.prog 9 gO (w0.heap.size+1) n D∧MapF D L
 below:Below w0.heap.size w0 W
theorem LdQ.keep {w0:World} {o:Obj} {L:List Fi} {c:Nat} {W W':World} (h:LdQ w0 o L c W) (hb:Below W.heap.size W W'):LdQ w0 o L c W':=by
 have hs:=h.size;obtain ⟨n,D,h1,h2,h3⟩:=h.own;exact ⟨(hb.block _ (by omega)).trans h.st,(hb.cell (p:=⟨w0.heap.size+1+1,0,none⟩) (by show w0.heap.size+1+1<_;omega)).trans h.box,Nat.le_trans hs hb.size,⟨n,D,h1,bS h2 hb,h3⟩,h.below.trans (hb.mono (by omega))⟩
theorem LdQ.more {w0:World} {o:Obj} {L:List Fi} {c c':Nat} {W:World} (h:LdQ w0 o L c W) (hc:c≤c'):LdQ w0 o L c' W:=by
 obtain ⟨n,D,h1,h2,h3⟩:=h.own;exact ⟨h.st,h.box,h.size,⟨n,D,by omega,h2,h3⟩,h.below⟩
theorem LdQ.put {w0:World} {o:Obj} {L:List Fi} {c:Nat} {W:World} (h:LdQ w0 o L c W) (x:Fi) (hx:x.pa.size≤maxLen) (hc:c<maxLen):
 Calls Tryz.prog 73 #[.agg #[.string x.pa,.bool x.dr,.string x.da],.pointer (some ⟨w0.heap.size+1+1,0,none⟩)] W fun e W'=>e= .returned (.tuple #[])∧LdQ w0 o (aR L x) (c+1) W':=by
 have hs:=h.size;obtain ⟨n,D,h1,h2,h3⟩:=h.own;refine (YB x hx h.box (by omega) h2 (by omega)).mono ?_;rintro e W' ⟨rfl,h4,h5⟩;refine ⟨rfl,(h5.block _ (by omega) (fun e=>by have:=Option.some.inj e;omega)).trans h.st,h5.cell h.box (fun e=>by have:w0.heap.size+1+1=w0.heap.size+1:=Option.some.inj e;omega),Nat.le_trans hs h5.size,⟨n+1,_,by omega,h4,h3.put x⟩,h.below.grown h5 h.below.size (fun k e=>by cases e;omega)⟩
theorem LdQ.cells {w0:World} {x1 x2 x3 x4 xg xt:Value} {pr:Bool} {L:List Fi} {c:Nat} {W:World} (h:LdQ w0 (stO x1 x2 x3 x4 xg xt pr) L c W):
 (W.cell? ⟨w0.heap.size,0,none⟩=some x1∧W.cell? ⟨w0.heap.size,1,none⟩=some x2∧W.cell? ⟨w0.heap.size,2,none⟩=some x3∧W.cell? ⟨w0.heap.size,3,none⟩=some x4)∧W.cell? ⟨w0.heap.size,4,none⟩=some xg∧W.cell? ⟨w0.heap.size,5,none⟩=some xt∧W.cell? ⟨w0.heap.size,6,none⟩=some (.bool pr):=by
 have hb:=h.st;refine ⟨⟨?_,?_,?_,?_⟩,?_,?_,?_⟩<;>rw [Lib.cell_of_heap hb]<;>rfl
theorem LdQ.start (w:World) (x1 x2 x3 x4 xg xt:Value) (pr:Bool):LdQ w (stO x1 x2 x3 x4 xg xt pr) [] 0 (((w.alloc (stO x1 x2 x3 x4 xg xt pr)).alloc (.map #[] 0)).alloc (.cells #[.map (some (w.heap.size+1))] 74)):=by
 have h1:=World.ownsMap_made (H:=Value) (w.alloc (stO x1 x2 x3 x4 xg xt pr)) Tryz.prog 9 gO;have e1:(w.alloc (stO x1 x2 x3 x4 xg xt pr)).heap.size=w.heap.size+1:=by simp
 rw [e1] at h1;have hb:Below w.heap.size w (((w.alloc (stO x1 x2 x3 x4 xg xt pr)).alloc (.map #[] 0)).alloc (.cells #[.map (some (w.heap.size+1))] 74)):=(((Below.refl _ w).alloc (Nat.le_refl _) _).alloc (by simp) _).alloc (by simp;omega) _;refine ⟨?_,?_,by simp,⟨0,_,Nat.le_refl _,h1.alloc _,MapF.new⟩,hb⟩
 · rw [Below.heap_alloc _ _ _ (by simp;omega),Below.heap_alloc _ _ _ (by simp)]
   exact World.alloc_heap_new w _
 · have e2:((w.alloc (stO x1 x2 x3 x4 xg xt pr)).alloc (.map #[] 0)).heap.size=w.heap.size+1+1:=by simp
   have:=World.cell?_alloc_new (w:=(w.alloc (stO x1 x2 x3 x4 xg xt pr)).alloc (.map #[] 0)) #[.map (some (w.heap.size+1))] 74 0
   rw [e2] at this;rw [this];rfl
noncomputable def kY (mt lt:ByteArray) (pr:Bool) (L:List Dr) (k:Nat):List Fi:=((gN pr++((L.drop 1).take k).flatMap fun d=>([.mod (upP d.pa),.dir d.pa,.pkg d]:List Ca)).map (caF mt lt)).foldl aR []
theorem AJ (mt lt:ByteArray) (pr:Bool) (L:List Dr):kY mt lt pr L 0=((gN pr).map (caF mt lt)).foldl aR []:=by unfold kY;simp
theorem AK {mt lt:ByteArray} {pr:Bool} {L:List Dr} {k:Nat} (hk:k+1<L.length):kY mt lt pr L (k+1)=aR (aR (aR (kY mt lt pr L k) (caF mt lt (.mod (upP L[k+1].pa)))) (caF mt lt (.dir L[k+1].pa))) (caF mt lt (.pkg L[k+1])):=by
 unfold kY;have hl:k<(L.drop 1).length:=by rw [List.length_drop];omega
 have e:(L.drop 1)[k]=L[k+1]:=by rw [List.getElem_drop];congr 1;omega
 rw [List.take_succ_eq_append_getElem hl,List.flatMap_append,←List.append_assoc,List.map_append,List.foldl_append,e];rfl
theorem YK (mt lt:ByteArray) (pr:Bool) (L:List Dr):kY mt lt pr L (L.length - 1)=((caP pr L).map (caF mt lt)).foldl aR []:=by
 unfold kY caP;rw [List.take_of_length_le (by rw [List.length_drop];omega)]
end Go.Proofs.YtmnhnofnlcbliaaGreatDoor
