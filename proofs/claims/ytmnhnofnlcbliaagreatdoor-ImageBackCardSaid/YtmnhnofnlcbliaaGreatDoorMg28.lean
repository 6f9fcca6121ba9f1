/- Ps7, Ps8, Pw2: their declarations that are needed, laid in one text, remarks and blanks left out. -/
import Derived.Test.YtmnhnofnlcbliaaGreatDoorMg27
namespace Go.Proofs.YtmnhnofnlcbliaaGreatDoor
open Go.RowKit
set_option maxRecDepth 100000
def pkW:List Sc.Bs:=[[110,101,101,100,115],[98,101,115,105,100,101],[108,105,107,101,115]]
def cO:List (List Sc.Bs)→Int
 |[]=>22
 |h::r=>if fJ h=0 then (aV pkW 0 [[],[],[]] r).1 else fJ h
def bL:List (List Sc.Bs)→Pg
 |[]=>⟨⟨#[]⟩,0,0,0,[],[],[]⟩
 |h::r=>⟨Sc.ba (h.getD 1 []),eS (Sc.ba (h.getD 2 [])),eT (Sc.ba (h.getD 2 [])),eU (Sc.ba (h.getD 2 [])),(aV pkW 0 [[],[],[]] r).2.getD 0 [],(aV pkW 0 [[],[],[]] r).2.getD 1 [],(aV pkW 0 [[],[],[]] r).2.getD 2 []⟩
theorem OwnD.of {w w':World} {B:Nat} {v:Value} {ps:List (Dp×Value)} (h:OwnD w B v ps) (hk:∀ g,B≤g→w'.heap[g]? =w.heap[g]?):OwnD w' B v ps:=
 ⟨mK h.1 fun g hg=>hk g (h.1.lt g hg).1,fun p hp=>(h.2 p hp).of_block fun g hg=>hk g ((h.2 p hp).lt hg).2⟩
def OwnP (w:World) (B:Nat) (P:Pg) (v1 v2 v3:Value):Prop:=∃ q1 q2 q3,(OwnD w B v1 q1∧q1.map (·.1)=P.d)∧(OwnD w B v2 q2∧q2.map (·.1)=P.p)∧(OwnD w B v3 q3∧q3.map (·.1)=P.o)
theorem OwnP.below {w w':World} {B:Nat} {P:Pg} {v1 v2 v3:Value} (h:OwnP w B P v1 v2 v3) (hb:Below w.heap.size w w'):OwnP w' B P v1 v2 v3:=by
 obtain ⟨q1,q2,q3,h1,h2,h3⟩:=h;exact ⟨q1,q2,q3,⟨h1.1.below hb,h1.2⟩,⟨h2.1.below hb,h2.2⟩,h3.1.below hb,h3.2⟩
theorem OwnP.base {w:World} {B C:Nat} {P:Pg} {v1 v2 v3:Value} (h:OwnP w B P v1 v2 v3) (hc:C≤B):OwnP w C P v1 v2 v3:=by
 obtain ⟨q1,q2,q3,h1,h2,h3⟩:=h;exact ⟨q1,q2,q3,⟨h1.1.base hc,h1.2⟩,⟨h2.1.base hc,h2.2⟩,h3.1.base hc,h3.2⟩
theorem OwnP.of {w w':World} {B:Nat} {P:Pg} {v1 v2 v3:Value} (h:OwnP w B P v1 v2 v3) (hk:∀ g,B≤g→w'.heap[g]? =w.heap[g]?):OwnP w' B P v1 v2 v3:=by
 obtain ⟨q1,q2,q3,h1,h2,h3⟩:=h;exact ⟨q1,q2,q3,⟨h1.1.of hk,h1.2⟩,⟨h2.1.of hk,h2.2⟩,h3.1.of hk,h3.2⟩
theorem OwnP.at {w:World} {B:Nat} {P:Pg} {v1 v2 v3:Value} (h:OwnP w B P v1 v2 v3):PgAt w P v1 v2 v3:=by
 obtain ⟨q1,q2,q3,h1,h2,h3⟩:=h;exact ⟨h1.2 ▸ h1.1.at,h2.2 ▸ h2.1.at,h3.2 ▸ h3.1.at⟩
theorem JH (B:Nat) (P:Pg) (v1 v2 v3:Value):KeepP fun w1=>OwnP w1 B P v1 v2 v3:=fun _ _ h hb=>h.below hb
def PkQ (w:World) (er:Int) (P:Pg) (e:Ending) (w':World):Prop:=∃ s a b c v1 v2 v3,e= .returned (.tuple #[.agg #[.string s,.int .i64 a,.int .i64 b,.int .i64 c,v1,v2,v3],.int .i64 er])∧Below w.heap.size w w'∧(er=0→s=P.nm∧a=P.a∧b=P.b∧c=P.c∧OwnP w' w.heap.size P v1 v2 v3)∧(er≠0→s=⟨#[]⟩∧a=0∧b=0∧c=0∧v1= .slice none 0 0∧v2= .slice none 0 0∧v3= .slice none 0 0)
theorem PkQ.err {w w':World} {er er':Int} {P:Pg} (h0:er=er') (h:er'≠0) (hb:Below w.heap.size w w'):PkQ w er P (.returned (.tuple #[.agg #[.string ⟨#[]⟩,.int .i64 0,.int .i64 0,.int .i64 0,.slice none 0 0,.slice none 0 0,.slice none 0 0],.int .i64 er'])) w':=by
 subst h0;exact ⟨_,_,_,_,_,_,_,rfl,hb,fun e=>absurd e h,fun _=>⟨rfl,rfl,rfl,rfl,rfl,rfl,rfl⟩⟩
theorem Dn {rows:List (Value×List (Dp×Value))} {R:List (List Dp)} (h:cJ rows=R) (hl:rows.length=3) {w:World} {B N:Nat} (hr:RD w B N rows) (s:ByteArray) (a b c:Int):∃ a1 k1 c1 a2 k2 c2 a3 k3 c3,(w.cell? ⟨N,0,none⟩=some (.slice a1 k1 c1)∧w.cell? ⟨N,1,none⟩=some (.slice a2 k2 c2)∧w.cell? ⟨N,2,none⟩=some (.slice a3 k3 c3))∧OwnP w B ⟨s,a,b,c,R.getD 0 [],R.getD 1 [],R.getD 2 []⟩ (.slice a1 k1 c1) (.slice a2 k2 c2) (.slice a3 k3 c3):=by
 subst h;have z0:=hr.cell 0 (by omega);have z1:=hr.cell 1 (by omega);have z2:=hr.cell 2 (by omega);have o0:=hr.2.1 _ (List.getElem_mem (show 0<rows.length by omega));have o1:=hr.2.1 _ (List.getElem_mem (show 1<rows.length by omega));have o2:=hr.2.1 _ (List.getElem_mem (show 2<rows.length by omega));obtain ⟨a1,c1,e1⟩:=o0.len;obtain ⟨a2,c2,e2⟩:=o1.len;obtain ⟨a3,c3,e3⟩:=o2.len;rw [e1] at z0 o0;rw [e2] at z1 o1;rw [e3] at z2 o2;exact ⟨a1,_,c1,a2,_,c2,a3,_,c3,⟨z0,z1,z2⟩,_,_,_,⟨o0,(dW (show 0<rows.length by omega)).symm⟩,⟨o1,(dW (show 1<rows.length by omega)).symm⟩,o2,(dW (show 2<rows.length by omega)).symm⟩
theorem AZ (w:World):Sc.WordsAt (w.alloc (.cells #[.string (lwK 0),.string (lwK 1),.string (lwK 2)] 9)) (.slice (some ⟨w.heap.size,0,none⟩) 3 3) pkW:=by
 refine ⟨_,3,rfl,by decide,Or.inr ⟨w.heap.size,0,rfl,by simp,fun i hi=> ?_⟩⟩
 match i,hi with
 |0,_=>simp;rfl
 |1,_=>simp;rfl
 |2,_=>simp;rfl
theorem sD {X:List Sc.Bs}:∀ (Lns:List (List Sc.Bs)) (a:Nat) (acc:List (List Dp)),(aV X a acc Lns).1=0→(aV X a acc Lns).2.length=acc.length
 |[],_,_,_=>rfl
 |ln::r,a,acc,h=>by
  unfold aV at h ⊢
  split at h
  · cases h
  · split at h
    · cases h
    · split at h
      · rename_i h1 h2 h3
        rw [if_neg h1,if_neg h2,if_pos h3];rw [sD r _ _ h,List.length_set]
      · rename_i h1 h2 h3
        exact absurd h h3
theorem ZE {w:World} {N:Nat} {s:ByteArray} {a b c:Int} {u1 u2 u3 v1 v2 v3:Value} (h:BxP w N s a b c u1 u2 u3):BxP (((w.setCell ⟨N,4,none⟩ v1).setCell ⟨N,5,none⟩ v2).setCell ⟨N,6,none⟩ v3) N s a b c v1 v2 v3:=by
 obtain ⟨j0,j1,j2,j3,j4,j5,j6,j7⟩:=h;have f:∀ i x,i<4→w.cell? ⟨N,i,none⟩=some x→(((w.setCell ⟨N,4,none⟩ v1).setCell ⟨N,5,none⟩ v2).setCell ⟨N,6,none⟩ v3).cell? ⟨N,i,none⟩=some x:=fun i x hi hx=>aJ (by omega) (aJ (by omega) (aJ (by omega) hx))
 exact ⟨f 0 _ (by decide) j0,f 1 _ (by decide) j1,f 2 _ (by decide) j2,f 3 _ (by decide) j3,aJ (by decide) (aJ (by decide) (World.cell?_setCell_same _ _ _ j4)),aJ (by decide) (World.cell?_setCell_same _ _ _ (aJ (by decide) j5)),World.cell?_setCell_same _ _ _ (aJ (by decide) (aJ (by decide) j6)),by simpa using j7⟩
theorem uC {w:World} {N g:Nat} {v1 v2 v3:Value} (h:g≠N):(((w.setCell ⟨N,4,none⟩ v1).setCell ⟨N,5,none⟩ v2).setCell ⟨N,6,none⟩ v3).heap[g]? =w.heap[g]? :=
 (Below.heap_setCell _ _ _ _ h).trans ((Below.heap_setCell _ _ _ _ h).trans (Below.heap_setCell _ _ _ _ h))
theorem BxPF.of {w w':World} {N:Nat} {s:ByteArray} {a b c:Int} {v1 v2 v3:Value} (h:BxPF w N s a b c v1 v2 v3) (hk:w'.heap[N]? =w.heap[N]?) (hs:w.heap.size≤w'.heap.size):BxPF w' N s a b c v1 v2 v3:=by
 have q:∀ i,w'.cell? ⟨N,i,none⟩=w.cell? ⟨N,i,none⟩:=fun i=>World.cell?_of_block (a:=⟨N,i,none⟩) hk
 obtain ⟨⟨h0,h1,h2,h3,h4,h5,h6,h7⟩,hf⟩:=h;exact ⟨⟨by rw [q];exact h0,by rw [q];exact h1,by rw [q];exact h2,by rw [q];exact h3,by rw [q];exact h4,by rw [q];exact h5,by rw [q];exact h6,Nat.lt_of_lt_of_le h7 hs⟩,fun i hi=>(World.frozen?_of_block (a:=⟨N,i,none⟩) hk).trans (hf i hi)⟩
set_option maxHeartbeats 1600000 in
theorem yO (w:World) (ad:Option Addr) (cap:Nat):Calls Tryz.prog 187 #[.slice ad 0 cap] w (PkQ w (cO []) (bL [])):=by
 have HER:Hid (∀ w',Below w.heap.size w w'→PkQ w (cO []) (bL []) (.returned (.tuple #[.agg #[.string ⟨#[]⟩,.int .i64 0,.int .i64 0,.int .i64 0,.slice none 0 0,.slice none 0 0,.slice none 0 0],.int .i64 22])) w'):=fun w' hb=>PkQ.err rfl (by decide) hb
 generalize PkQ w (cO []) (bL [])=HQ at*
 go_enter Tryz.func187,Tryz.ntmps187
 go_wp2
 try simp only [Exit.inBlock,Exit.then]
 refine bodyPost_ret (by simp [results,Tryz.results187,go_sem];try rfl) rfl ?_;exact HER.out _ (aC _ _)
set_option maxHeartbeats 6400000 in
theorem yP {h:List Sc.Bs} {u:Value} {w:World} {g o:Nat} (c0:w.cell? ⟨g,o,none⟩=some u) (hu:Sc.WordsAt w u h) (hg:g<w.heap.size) (hne:h≠[]) (hz:∀ x ∈ h,x.length≤5000) (he:Env w) (hf:FL w):
 Calls Tryz.prog 187 #[.slice (some ⟨g,o,none⟩) 1 1] w (PkQ w (cO (h::[])) (bL (h::[]))):=by
 have HRH:Hid (∀ w1,Below w.heap.size w w1→Calls Tryz.prog 229 #[u] w1 (HeadQ w1 h (fJ h))):=fun w1 hb=>qU (hu.below hb) hne hz (he.below hb)
 have HLI:Hid (∀ w1 vx,Below w.heap.size w w1→Sc.WordsAt w1 vx pkW→Calls Tryz.prog 184 #[.slice (some ⟨g,o,none⟩) 0 0,vx] w1 (ReadQ w1 (aV pkW 0 [[],[],[]] ([])))):=fun w1 vx hb hx=>qO (X:=pkW) (Lns:=[]) ⟨_,0,rfl,Nat.le_refl _,Or.inl rfl⟩ hx (by decide) (by simp) (fun ln hl=>by cases hl) (he.below hb) (hf.below hb)
 have HER:Hid (∀ er w',cO (h::[])=er→er≠0→Below w.heap.size w w'→PkQ w (cO (h::[])) (bL (h::[])) (.returned (.tuple #[.agg #[.string ⟨#[]⟩,.int .i64 0,.int .i64 0,.int .i64 0,.slice none 0 0,.slice none 0 0,.slice none 0 0],.int .i64 er])) w'):=fun er w' h1 h2 hb=>PkQ.err h1 h2 hb
 have HOK:Hid (∀ s a b c v1 v2 v3 w',cO (h::[])=0→Below w.heap.size w w'→s=(bL (h::[])).nm→a=(bL (h::[])).a→b=(bL (h::[])).b→c=(bL (h::[])).c→OwnP w' w.heap.size (bL (h::[])) v1 v2 v3→PkQ w (cO (h::[])) (bL (h::[])) (.returned (.tuple #[.agg #[.string s,.int .i64 a,.int .i64 b,.int .i64 c,v1,v2,v3],.int .i64 0])) w'):=fun s a b c v1 v2 v3 w' h0 hb e1 e2 e3 e4 ho=>by
  rw [h0];exact ⟨s,a,b,c,v1,v2,v3,rfl,hb,fun _=>⟨e1,e2,e3,e4,ho⟩,fun hx=>absurd rfl hx⟩
 have HE:Hid (cO (h::[])=if fJ h=0 then (aV pkW 0 [[],[],[]] ([])).1 else fJ h):=rfl;have HP:Hid (bL (h::[])=⟨Sc.ba (h.getD 1 []),eS (Sc.ba (h.getD 2 [])),eT (Sc.ba (h.getD 2 [])),eU (Sc.ba (h.getD 2 [])),(aV pkW 0 [[],[],[]] ([])).2.getD 0 [],(aV pkW 0 [[],[],[]] ([])).2.getD 1 [],(aV pkW 0 [[],[],[]] ([])).2.getD 2 []⟩):=rfl;have HRL:=aB (sD (X:=pkW) ([]) 0 [[],[],[]])
 obtain ⟨au,cu,rfl⟩:∃ ad cap,u= .slice ad h.length cap:=by
  obtain ⟨ad,cap,e,_⟩:=hu;exact ⟨ad,cap,e⟩
 clear hu hne hz he hf;generalize cO (h::[])=LE at*;generalize bL (h::[])=LP at*;generalize aV pkW 0 [[],[],[]] ([])=RF at*;generalize hHQ:PkQ w LE LP=HQ at*;clear hHQ
 have HHQ:Hid (∀ w1 e w',HeadQ w1 h (fJ h) e w'→∃ s a b c,e= .returned (.tuple #[.agg #[.string s,.int .i64 a,.int .i64 b,.int .i64 c,.slice none 0 0,.slice none 0 0,.slice none 0 0],.int .i64 (fJ h)])∧Below w1.heap.size w1 w'∧(fJ h=0→s=Sc.ba (h.getD 1 [])∧a=eS (Sc.ba (h.getD 2 []))∧b=eT (Sc.ba (h.getD 2 []))∧c=eU (Sc.ba (h.getD 2 [])))):=fun w1 e w' hq=>by
  obtain ⟨s,a,b,c,h1,h2,h3,_⟩:=hq;exact ⟨s,a,b,c,h1,h2,h3⟩
 generalize fJ h=eh at*;have c0':(w.alloc (.cells #[.string ⟨#[]⟩,.int .i64 0,.int .i64 0,.int .i64 0,.slice none 0 0,.slice none 0 0,.slice none 0 0] 54)).cell? ⟨g,o,none⟩=some (.slice au h.length cu):=((aC w _).cell (p:=⟨g,o,none⟩) hg).trans c0;have HB0:Hid (BxPF (w.alloc (.cells #[.string ⟨#[]⟩,.int .i64 0,.int .i64 0,.int .i64 0,.slice none 0 0,.slice none 0 0,.slice none 0 0] 54)) w.heap.size ⟨#[]⟩ 0 0 0 (.slice none 0 0) (.slice none 0 0) (.slice none 0 0)):=BxPF.new rfl _ _ _ _ _ _ _;have HKB:Hid (KeepP fun w1=>BxPF w1 w.heap.size ⟨#[]⟩ 0 0 0 (.slice none 0 0) (.slice none 0 0) (.slice none 0 0)):=eC _ _ _ _ _ _ _ _
 by_cases h0:eh=0
 · subst h0
   go_enter Tryz.func187,Tryz.ntmps187
   go_wp2_with (go_at_call 229;refine (HRH.out _ (aC _ _)).mono ?_;rintro e w2 hq;obtain ⟨s,a,b,c,rfl,hb2,hok2⟩:=HHQ.out _ _ _ hq;obtain ⟨e1,e2,e3,e4⟩:=hok2 rfl;have HS:Hid (s=Sc.ba (h.getD 1 [])∧a=eS (Sc.ba (h.getD 2 []))∧b=eT (Sc.ba (h.getD 2 []))∧c=eU (Sc.ba (h.getD 2 []))):=⟨e1,e2,e3,e4⟩;have HB2:Hid (Below w.heap.size w w2):=aA (aC _ _) hb2;have HX2:=aB (HKB.out _ _ HB0.out hb2);clear hb2 hq hok2 e1 e2 e3 e4)
   have HB3:Hid (Below w.heap.size w (w2.alloc (.cells #[.string s,.int .i64 a,.int .i64 b,.int .i64 c,.slice none 0 0,.slice none 0 0,.slice none 0 0] 54))):=aA HB2.out (aC _ _);have HX3:Hid (BxPF (w2.alloc (.cells #[.string s,.int .i64 a,.int .i64 b,.int .i64 c,.slice none 0 0,.slice none 0 0,.slice none 0 0] 54)) w.heap.size ⟨#[]⟩ 0 0 0 (.slice none 0 0) (.slice none 0 0) (.slice none 0 0)):=HKB.out _ _ HX2.out (aC _ _);have HY3:Hid (BxPF (w2.alloc (.cells #[.string s,.int .i64 a,.int .i64 b,.int .i64 c,.slice none 0 0,.slice none 0 0,.slice none 0 0] 54)) w2.heap.size s a b c (.slice none 0 0) (.slice none 0 0) (.slice none 0 0)):=BxPF.new rfl _ _ _ _ _ _ _;have hMN:w.heap.size<w2.heap.size:=HX2.out.1.2.2.2.2.2.2.2;generalize w2.alloc (.cells #[.string s,.int .i64 a,.int .i64 b,.int .i64 c,.slice none 0 0,.slice none 0 0,.slice none 0 0] 54)=w3 at*;generalize w2.heap.size=M at*
   clear HX2 HB2 HB0;have hM3:M<w3.heap.size:=HY3.out.1.2.2.2.2.2.2.2;have HWA:Hid (Sc.WordsAt (w3.drew.alloc (.cells #[.string (lwK 0),.string (lwK 1),.string (lwK 2)] 9)) (.slice (some ⟨w3.heap.size,0,none⟩) 3 3) pkW):=AZ w3.drew
   go_upto_region 6 with fail
   go_cut [5,6] from 7 (fun s5 s6 wx=>∃ vr,s5= .int .i64 RF.1∧s6=vr∧Below w3.heap.size w3 wx∧(RF.1=0→∃ B N rows,M<B∧w.heap.size≤B∧vr= .slice (some ⟨N,0,none⟩) rows.length rows.length∧RD wx B N rows∧cJ rows=RF.2))
   case first=>
    go_region_held3 (fun _=>True) (go_keep)
     (first
       |(go_at_call 175;refine (kC _).mono ?_;rintro e w4 ⟨rfl,hw4⟩;subst hw4)
       |(go_at_call 184;refine (HLI.out _ _ (aA HB3.out (aA (Below.refl _ _).drew (aC _ _))) HWA.out).mono ?_;rintro e w5 ⟨vr,rfl,hb5,hok5,_⟩;have HB5:Hid (Below w3.heap.size w3 w5):=aA (aA (Below.refl _ _).drew (aC _ _)) hb5;have HR5:Hid (RF.1=0→∃ B N rows,M<B∧w.heap.size≤B∧vr= .slice (some ⟨N,0,none⟩) rows.length rows.length∧RD w5 B N rows∧cJ rows=RF.2):=(fun e0=>by obtain ⟨N,rows,x1,x2,x3⟩:=hok5 e0;exact ⟨_,N,rows,by simp;omega,by simp;omega,x1,x2,x3⟩);clear hb5 hok5))
    go_wp2_with fail
    go_meet
    exact ⟨vr,rfl,rfl,HB5.out,HR5.out⟩
   case rest=>
    obtain ⟨vr,rfl,rfl,hbc,hrc⟩:=hcut;have HBC:Hid (Below w.heap.size w wc):=aA HB3.out hbc;have HXC:=aB (HKB.out _ _ HX3.out hbc);have HYC:=aB (eC _ _ _ _ _ _ _ _ _ _ HY3.out hbc);clear hbc
    by_cases hr0:RF.1=0
    · obtain ⟨B,N,rows,hMB,hwB,rfl,hRD,hpl⟩:=hrc hr0
      have hL0:LE=0:=by rw [HE.out];simpa using hr0
      have hrl:rows.length=3:=by have:=HRL.out hr0;rw [←hpl] at this;unfold cJ at this;simpa using this
      obtain ⟨a1,k1,c1,a2,k2,c2,a3,k3,c3,⟨n0,n1,n2⟩,hop⟩:=Dn hpl hrl hRD LP.nm LP.a LP.b LP.c
      have HOP:Hid (OwnP wc B LP (.slice a1 k1 c1) (.slice a2 k2 c2) (.slice a3 k3 c3)):=by
       have e:LP=⟨LP.nm,LP.a,LP.b,LP.c,RF.2.getD 0 [],RF.2.getD 1 [],RF.2.getD 2 []⟩:=by rw [HP.out]
       rw [e];exact hop
      have HNB:Hid (B≤N):=hRD.size.1;have hNM:N≠M:=by have:=hRD.size.1;omega
      clear hop hrc hRD hpl;rw [hrl];rw [hr0];obtain ⟨⟨y0,y1,y2,y3,y4,y5,y6,y7⟩,hfy⟩:=HYC.out;have fy4:=hfy 4 (by decide);have fy5:=hfy 5 (by decide);have fy6:=hfy 6 (by decide);clear hfy
      go_upto_region 9 with fail
      go_cut [] from 7 (fun wx=>Below w.heap.size w wx∧BxPF wx w.heap.size ⟨#[]⟩ 0 0 0 (.slice none 0 0) (.slice none 0 0) (.slice none 0 0)∧BxP wx M s a b c (.slice a1 k1 c1) (.slice a2 k2 c2) (.slice a3 k3 c3)∧OwnP wx B LP (.slice a1 k1 c1) (.slice a2 k2 c2) (.slice a3 k3 c3))
      case first=>
       go_region
       all_goals go_wp2_with fail
       all_goals go_meet
       all_goals exact ⟨(((HBC.out.setCell (p:=⟨M,4,none⟩) (Nat.le_of_lt hMN) _).setCell (p:=⟨M,5,none⟩) (Nat.le_of_lt hMN) _).setCell (p:=⟨M,6,none⟩) (Nat.le_of_lt hMN) _).drew,(eC _ _ _ _ _ _ _ _).drew (HXC.out.of (uC (by omega)) (by simp)),(gE _ _ _ _ _ _ _ _).drew (ZE HYC.out.1),(JH _ _ _ _ _).drew (HOP.out.of fun g hg=>uC (by omega))⟩
      case rest=>
       obtain ⟨hbd,hxd,hyd,hod⟩:=hcut;have HBD:=aB hbd;have HOD:=aB hod;clear hbd hod y0 y1 y2 y3 y4 y5 y6 y7 fy4 fy5 fy6 n0 n1 n2;obtain ⟨⟨b0,b1,b2,b3,b4,b5,b6,b7⟩,hfz⟩:=hxd;obtain ⟨y0,y1,y2,y3,y4,y5,y6,y7⟩:=hyd;have f0:=hfz 0 (by decide);have f1:=hfz 1 (by decide);have f2:=hfz 2 (by decide);have f3:=hfz 3 (by decide);have f4:=hfz 4 (by decide);have f5:=hfz 5 (by decide);have f6:=hfz 6 (by decide);clear hfz;have s7:=fun u0 u1 u2 u3 u4 u5 u6=>mT b0 b1 b2 b3 b4 b5 b6 u0 u1 u2 u3 u4 u5 u6
       go_wp2
       try simp only [Exit.inBlock,Exit.then]
       refine bodyPost_ret (by simp [results,Tryz.results187,s7,go_sem];try rfl) rfl ?_;refine HOK.out s a b c _ _ _ _ hL0 (bF (Nat.le_refl _) HBD.out) (by rw [HP.out];exact HS.out.1) (by rw [HP.out];exact HS.out.2.1) (by rw [HP.out];exact HS.out.2.2.1) (by rw [HP.out];exact HS.out.2.2.2) ?_;exact (HOD.out.of fun g hg=>QO (by omega)).base hwB
    · have hL:LE=RF.1:=by rw [HE.out];simp
      obtain ⟨⟨b0,b1,b2,b3,b4,b5,b6,b7⟩,hfz⟩:=HXC.out;have f0:=hfz 0 (by decide);have f1:=hfz 1 (by decide);have f2:=hfz 2 (by decide);have f3:=hfz 3 (by decide);have f4:=hfz 4 (by decide);have f5:=hfz 5 (by decide);have f6:=hfz 6 (by decide);clear hfz;have s7:=fun u0 u1 u2 u3 u4 u5 u6=>mT b0 b1 b2 b3 b4 b5 b6 u0 u1 u2 u3 u4 u5 u6
      have hre:(RF.1==0)=false:=by simpa using hr0
      go_wp2
      try simp only [Exit.inBlock,Exit.then]
      refine bodyPost_ret (by simp [results,Tryz.results187,s7,go_sem];try rfl) rfl ?_;exact HER.out _ _ hL hr0 (bF (Nat.le_refl _) HBC.out)
 · have hL:LE=eh:=by rw [HE.out,if_neg h0]
   have hre:(eh==0)=false:=by simpa using h0
   go_enter Tryz.func187,Tryz.ntmps187
   go_wp2_with (go_at_call 229;refine (HRH.out _ (aC _ _)).mono ?_;rintro e w2 hq;obtain ⟨s,a,b,c,rfl,hb2,_⟩:=HHQ.out _ _ _ hq;have HO2:Hid (Below w.heap.size w (w2.alloc (.cells #[.string s,.int .i64 a,.int .i64 b,.int .i64 c,.slice none 0 0,.slice none 0 0,.slice none 0 0] 54))∧BxPF (w2.alloc (.cells #[.string s,.int .i64 a,.int .i64 b,.int .i64 c,.slice none 0 0,.slice none 0 0,.slice none 0 0] 54)) w.heap.size ⟨#[]⟩ 0 0 0 (.slice none 0 0) (.slice none 0 0) (.slice none 0 0)):=⟨aA (aA (aC _ _) hb2) (aC _ _),HKB.out _ _ (HKB.out _ _ HB0.out hb2) (aC _ _)⟩;obtain ⟨⟨b0,b1,b2,b3,b4,b5,b6,b7⟩,hfz⟩:=HO2.out.2;have f0:=hfz 0 (by decide);have f1:=hfz 1 (by decide);have f2:=hfz 2 (by decide);have f3:=hfz 3 (by decide);have f4:=hfz 4 (by decide);have f5:=hfz 5 (by decide);have f6:=hfz 6 (by decide);clear hb2 hq hfz)
   have s7:=fun u0 u1 u2 u3 u4 u5 u6=>mT b0 b1 b2 b3 b4 b5 b6 u0 u1 u2 u3 u4 u5 u6
   try simp only [Exit.inBlock,Exit.then]
   refine bodyPost_ret (by simp [results,Tryz.results187,s7,go_sem];try rfl) rfl ?_;exact HER.out _ _ hL h0 (bF (Nat.le_refl _) HO2.out.1)
set_option maxHeartbeats 6400000 in
theorem xL {h:List Sc.Bs} {r:List (List Sc.Bs)} {u:Value} {w:World} {g o cap:Nat} (c0:w.cell? ⟨g,o,none⟩=some u) (hu:Sc.WordsAt w u h) (hg:g<w.heap.size) (hne:h≠[]) (hz:∀ x ∈ h,x.length≤5000) (he:Env w) (hf:FL w) (hr:∀ i (hi:i<r.length),∃ u,w.cell? ⟨g,o+1+i,none⟩=some u∧Sc.WordsAt w u r[i]) (hc:r.length+1≤cap) (hc1:¬ cap=1) (hn:r.length≤5000) (hs:∀ ln ∈ r,nL ln):
 Calls Tryz.prog 187 #[.slice (some ⟨g,o,none⟩) (r.length+1) cap] w (PkQ w (cO (h::r)) (bL (h::r))):=by
 have HRH:Hid (∀ w1,Below w.heap.size w w1→Calls Tryz.prog 229 #[u] w1 (HeadQ w1 h (fJ h))):=fun w1 hb=>qU (hu.below hb) hne hz (he.below hb)
 have HLI:Hid (∀ w1 vx,Below w.heap.size w w1→Sc.WordsAt w1 vx pkW→Calls Tryz.prog 184 #[.slice (some ⟨g,o+1,none⟩) r.length (cap - 1),vx] w1 (ReadQ w1 (aV pkW 0 [[],[],[]] (r)))):=fun w1 vx hb hx=>qO (X:=pkW) (Lns:=r) (Sc.LinesAt.below (w:=w) ⟨_,_,rfl,by omega,Or.inr ⟨g,o+1,rfl,hg,hr⟩⟩ hb) hx (by decide) hn hs (he.below hb) (hf.below hb)
 have HER:Hid (∀ er w',cO (h::r)=er→er≠0→Below w.heap.size w w'→PkQ w (cO (h::r)) (bL (h::r)) (.returned (.tuple #[.agg #[.string ⟨#[]⟩,.int .i64 0,.int .i64 0,.int .i64 0,.slice none 0 0,.slice none 0 0,.slice none 0 0],.int .i64 er])) w'):=fun er w' h1 h2 hb=>PkQ.err h1 h2 hb
 have HOK:Hid (∀ s a b c v1 v2 v3 w',cO (h::r)=0→Below w.heap.size w w'→s=(bL (h::r)).nm→a=(bL (h::r)).a→b=(bL (h::r)).b→c=(bL (h::r)).c→OwnP w' w.heap.size (bL (h::r)) v1 v2 v3→PkQ w (cO (h::r)) (bL (h::r)) (.returned (.tuple #[.agg #[.string s,.int .i64 a,.int .i64 b,.int .i64 c,v1,v2,v3],.int .i64 0])) w'):=fun s a b c v1 v2 v3 w' h0 hb e1 e2 e3 e4 ho=>by
  rw [h0];exact ⟨s,a,b,c,v1,v2,v3,rfl,hb,fun _=>⟨e1,e2,e3,e4,ho⟩,fun hx=>absurd rfl hx⟩
 have HE:Hid (cO (h::r)=if fJ h=0 then (aV pkW 0 [[],[],[]] (r)).1 else fJ h):=rfl;have HP:Hid (bL (h::r)=⟨Sc.ba (h.getD 1 []),eS (Sc.ba (h.getD 2 [])),eT (Sc.ba (h.getD 2 [])),eU (Sc.ba (h.getD 2 [])),(aV pkW 0 [[],[],[]] (r)).2.getD 0 [],(aV pkW 0 [[],[],[]] (r)).2.getD 1 [],(aV pkW 0 [[],[],[]] (r)).2.getD 2 []⟩):=rfl;have HRL:=aB (sD (X:=pkW) (r) 0 [[],[],[]])
 obtain ⟨au,cu,rfl⟩:∃ ad cap,u= .slice ad h.length cap:=by
  obtain ⟨ad,cap,e,_⟩:=hu;exact ⟨ad,cap,e⟩
 clear hu hne hz he hf hr hn hs;generalize cO (h::r)=LE at*;generalize bL (h::r)=LP at*;generalize aV pkW 0 [[],[],[]] (r)=RF at*;generalize hHQ:PkQ w LE LP=HQ at*;clear hHQ
 have HHQ:Hid (∀ w1 e w',HeadQ w1 h (fJ h) e w'→∃ s a b c,e= .returned (.tuple #[.agg #[.string s,.int .i64 a,.int .i64 b,.int .i64 c,.slice none 0 0,.slice none 0 0,.slice none 0 0],.int .i64 (fJ h)])∧Below w1.heap.size w1 w'∧(fJ h=0→s=Sc.ba (h.getD 1 [])∧a=eS (Sc.ba (h.getD 2 []))∧b=eT (Sc.ba (h.getD 2 []))∧c=eU (Sc.ba (h.getD 2 [])))):=fun w1 e w' hq=>by
  obtain ⟨s,a,b,c,h1,h2,h3,_⟩:=hq;exact ⟨s,a,b,c,h1,h2,h3⟩
 generalize fJ h=eh at*;have c0':(w.alloc (.cells #[.string ⟨#[]⟩,.int .i64 0,.int .i64 0,.int .i64 0,.slice none 0 0,.slice none 0 0,.slice none 0 0] 54)).cell? ⟨g,o,none⟩=some (.slice au h.length cu):=((aC w _).cell (p:=⟨g,o,none⟩) hg).trans c0;have HB0:Hid (BxPF (w.alloc (.cells #[.string ⟨#[]⟩,.int .i64 0,.int .i64 0,.int .i64 0,.slice none 0 0,.slice none 0 0,.slice none 0 0] 54)) w.heap.size ⟨#[]⟩ 0 0 0 (.slice none 0 0) (.slice none 0 0) (.slice none 0 0)):=BxPF.new rfl _ _ _ _ _ _ _;have HKB:Hid (KeepP fun w1=>BxPF w1 w.heap.size ⟨#[]⟩ 0 0 0 (.slice none 0 0) (.slice none 0 0) (.slice none 0 0)):=eC _ _ _ _ _ _ _ _;have hb0:(0:Int)<(r.length:Int)+1:=by omega
 have hb1:(1:Int)≤(r.length:Int)+1:=by omega
 have hb2:(r.length:Int)+1≤(cap:Int):=by omega
 have hb3:((r.length:Int)+1==0)=false:=by rw [beq_eq_false_iff_ne];omega
 by_cases h0:eh=0
 · subst h0
   go_enter Tryz.func187,Tryz.ntmps187
   go_wp2_with (go_at_call 229;refine (HRH.out _ (aC _ _)).mono ?_;rintro e w2 hq;obtain ⟨s,a,b,c,rfl,hb2,hok2⟩:=HHQ.out _ _ _ hq;obtain ⟨e1,e2,e3,e4⟩:=hok2 rfl;have HS:Hid (s=Sc.ba (h.getD 1 [])∧a=eS (Sc.ba (h.getD 2 []))∧b=eT (Sc.ba (h.getD 2 []))∧c=eU (Sc.ba (h.getD 2 []))):=⟨e1,e2,e3,e4⟩;have HB2:Hid (Below w.heap.size w w2):=aA (aC _ _) hb2;have HX2:=aB (HKB.out _ _ HB0.out hb2);clear hb2 hq hok2 e1 e2 e3 e4)
   have HB3:Hid (Below w.heap.size w (w2.alloc (.cells #[.string s,.int .i64 a,.int .i64 b,.int .i64 c,.slice none 0 0,.slice none 0 0,.slice none 0 0] 54))):=aA HB2.out (aC _ _);have HX3:Hid (BxPF (w2.alloc (.cells #[.string s,.int .i64 a,.int .i64 b,.int .i64 c,.slice none 0 0,.slice none 0 0,.slice none 0 0] 54)) w.heap.size ⟨#[]⟩ 0 0 0 (.slice none 0 0) (.slice none 0 0) (.slice none 0 0)):=HKB.out _ _ HX2.out (aC _ _);have HY3:Hid (BxPF (w2.alloc (.cells #[.string s,.int .i64 a,.int .i64 b,.int .i64 c,.slice none 0 0,.slice none 0 0,.slice none 0 0] 54)) w2.heap.size s a b c (.slice none 0 0) (.slice none 0 0) (.slice none 0 0)):=BxPF.new rfl _ _ _ _ _ _ _;have hMN:w.heap.size<w2.heap.size:=HX2.out.1.2.2.2.2.2.2.2;generalize w2.alloc (.cells #[.string s,.int .i64 a,.int .i64 b,.int .i64 c,.slice none 0 0,.slice none 0 0,.slice none 0 0] 54)=w3 at*;generalize w2.heap.size=M at*
   clear HX2 HB2 HB0;have hM3:M<w3.heap.size:=HY3.out.1.2.2.2.2.2.2.2;have HWA:Hid (Sc.WordsAt (w3.drew.alloc (.cells #[.string (lwK 0),.string (lwK 1),.string (lwK 2)] 9)) (.slice (some ⟨w3.heap.size,0,none⟩) 3 3) pkW):=AZ w3.drew
   go_upto_region 6 with fail
   go_cut [5,6] from 7 (fun s5 s6 wx=>∃ vr,s5= .int .i64 RF.1∧s6=vr∧Below w3.heap.size w3 wx∧(RF.1=0→∃ B N rows,M<B∧w.heap.size≤B∧vr= .slice (some ⟨N,0,none⟩) rows.length rows.length∧RD wx B N rows∧cJ rows=RF.2))
   case first=>
    go_region_held3 (fun _=>True) (go_keep)
     (first
       |(go_at_call 175;refine (kC _).mono ?_;rintro e w4 ⟨rfl,hw4⟩;subst hw4)
       |(go_at_call 184;refine (HLI.out _ _ (aA HB3.out (aA (Below.refl _ _).drew (aC _ _))) HWA.out).mono ?_;rintro e w5 ⟨vr,rfl,hb5,hok5,_⟩;have HB5:Hid (Below w3.heap.size w3 w5):=aA (aA (Below.refl _ _).drew (aC _ _)) hb5;have HR5:Hid (RF.1=0→∃ B N rows,M<B∧w.heap.size≤B∧vr= .slice (some ⟨N,0,none⟩) rows.length rows.length∧RD w5 B N rows∧cJ rows=RF.2):=(fun e0=>by obtain ⟨N,rows,x1,x2,x3⟩:=hok5 e0;exact ⟨_,N,rows,by simp;omega,by simp;omega,x1,x2,x3⟩);clear hb5 hok5))
    go_wp2_with fail
    go_meet
    exact ⟨vr,rfl,rfl,HB5.out,HR5.out⟩
   case rest=>
    obtain ⟨vr,rfl,rfl,hbc,hrc⟩:=hcut;have HBC:Hid (Below w.heap.size w wc):=aA HB3.out hbc;have HXC:=aB (HKB.out _ _ HX3.out hbc);have HYC:=aB (eC _ _ _ _ _ _ _ _ _ _ HY3.out hbc);clear hbc
    by_cases hr0:RF.1=0
    · obtain ⟨B,N,rows,hMB,hwB,rfl,hRD,hpl⟩:=hrc hr0
      have hL0:LE=0:=by rw [HE.out];simpa using hr0
      have hrl:rows.length=3:=by have:=HRL.out hr0;rw [←hpl] at this;unfold cJ at this;simpa using this
      obtain ⟨a1,k1,c1,a2,k2,c2,a3,k3,c3,⟨n0,n1,n2⟩,hop⟩:=Dn hpl hrl hRD LP.nm LP.a LP.b LP.c
      have HOP:Hid (OwnP wc B LP (.slice a1 k1 c1) (.slice a2 k2 c2) (.slice a3 k3 c3)):=by
       have e:LP=⟨LP.nm,LP.a,LP.b,LP.c,RF.2.getD 0 [],RF.2.getD 1 [],RF.2.getD 2 []⟩:=by rw [HP.out]
       rw [e];exact hop
      have HNB:Hid (B≤N):=hRD.size.1;have hNM:N≠M:=by have:=hRD.size.1;omega
      clear hop hrc hRD hpl;rw [hrl];rw [hr0];obtain ⟨⟨y0,y1,y2,y3,y4,y5,y6,y7⟩,hfy⟩:=HYC.out;have fy4:=hfy 4 (by decide);have fy5:=hfy 5 (by decide);have fy6:=hfy 6 (by decide);clear hfy
      go_upto_region 9 with fail
      go_cut [] from 7 (fun wx=>Below w.heap.size w wx∧BxPF wx w.heap.size ⟨#[]⟩ 0 0 0 (.slice none 0 0) (.slice none 0 0) (.slice none 0 0)∧BxP wx M s a b c (.slice a1 k1 c1) (.slice a2 k2 c2) (.slice a3 k3 c3)∧OwnP wx B LP (.slice a1 k1 c1) (.slice a2 k2 c2) (.slice a3 k3 c3))
      case first=>
       go_region
       all_goals go_wp2_with fail
       all_goals go_meet
       all_goals exact ⟨(((HBC.out.setCell (p:=⟨M,4,none⟩) (Nat.le_of_lt hMN) _).setCell (p:=⟨M,5,none⟩) (Nat.le_of_lt hMN) _).setCell (p:=⟨M,6,none⟩) (Nat.le_of_lt hMN) _).drew,(eC _ _ _ _ _ _ _ _).drew (HXC.out.of (uC (by omega)) (by simp)),(gE _ _ _ _ _ _ _ _).drew (ZE HYC.out.1),(JH _ _ _ _ _).drew (HOP.out.of fun g hg=>uC (by omega))⟩
      case rest=>
       obtain ⟨hbd,hxd,hyd,hod⟩:=hcut;have HBD:=aB hbd;have HOD:=aB hod;clear hbd hod y0 y1 y2 y3 y4 y5 y6 y7 fy4 fy5 fy6 n0 n1 n2;obtain ⟨⟨b0,b1,b2,b3,b4,b5,b6,b7⟩,hfz⟩:=hxd;obtain ⟨y0,y1,y2,y3,y4,y5,y6,y7⟩:=hyd;have f0:=hfz 0 (by decide);have f1:=hfz 1 (by decide);have f2:=hfz 2 (by decide);have f3:=hfz 3 (by decide);have f4:=hfz 4 (by decide);have f5:=hfz 5 (by decide);have f6:=hfz 6 (by decide);clear hfz;have s7:=fun u0 u1 u2 u3 u4 u5 u6=>mT b0 b1 b2 b3 b4 b5 b6 u0 u1 u2 u3 u4 u5 u6
       go_wp2
       try simp only [Exit.inBlock,Exit.then]
       refine bodyPost_ret (by simp [results,Tryz.results187,s7,go_sem];try rfl) rfl ?_;refine HOK.out s a b c _ _ _ _ hL0 (bF (Nat.le_refl _) HBD.out) (by rw [HP.out];exact HS.out.1) (by rw [HP.out];exact HS.out.2.1) (by rw [HP.out];exact HS.out.2.2.1) (by rw [HP.out];exact HS.out.2.2.2) ?_;exact (HOD.out.of fun g hg=>QO (by omega)).base hwB
    · have hL:LE=RF.1:=by rw [HE.out];simp
      obtain ⟨⟨b0,b1,b2,b3,b4,b5,b6,b7⟩,hfz⟩:=HXC.out;have f0:=hfz 0 (by decide);have f1:=hfz 1 (by decide);have f2:=hfz 2 (by decide);have f3:=hfz 3 (by decide);have f4:=hfz 4 (by decide);have f5:=hfz 5 (by decide);have f6:=hfz 6 (by decide);clear hfz;have s7:=fun u0 u1 u2 u3 u4 u5 u6=>mT b0 b1 b2 b3 b4 b5 b6 u0 u1 u2 u3 u4 u5 u6
      have hre:(RF.1==0)=false:=by simpa using hr0
      go_wp2
      try simp only [Exit.inBlock,Exit.then]
      refine bodyPost_ret (by simp [results,Tryz.results187,s7,go_sem];try rfl) rfl ?_;exact HER.out _ _ hL hr0 (bF (Nat.le_refl _) HBC.out)
 · have hL:LE=eh:=by rw [HE.out,if_neg h0]
   have hre:(eh==0)=false:=by simpa using h0
   go_enter Tryz.func187,Tryz.ntmps187
   go_wp2_with (go_at_call 229;refine (HRH.out _ (aC _ _)).mono ?_;rintro e w2 hq;obtain ⟨s,a,b,c,rfl,hb2,_⟩:=HHQ.out _ _ _ hq;have HO2:Hid (Below w.heap.size w (w2.alloc (.cells #[.string s,.int .i64 a,.int .i64 b,.int .i64 c,.slice none 0 0,.slice none 0 0,.slice none 0 0] 54))∧BxPF (w2.alloc (.cells #[.string s,.int .i64 a,.int .i64 b,.int .i64 c,.slice none 0 0,.slice none 0 0,.slice none 0 0] 54)) w.heap.size ⟨#[]⟩ 0 0 0 (.slice none 0 0) (.slice none 0 0) (.slice none 0 0)):=⟨aA (aA (aC _ _) hb2) (aC _ _),HKB.out _ _ (HKB.out _ _ HB0.out hb2) (aC _ _)⟩;obtain ⟨⟨b0,b1,b2,b3,b4,b5,b6,b7⟩,hfz⟩:=HO2.out.2;have f0:=hfz 0 (by decide);have f1:=hfz 1 (by decide);have f2:=hfz 2 (by decide);have f3:=hfz 3 (by decide);have f4:=hfz 4 (by decide);have f5:=hfz 5 (by decide);have f6:=hfz 6 (by decide);clear hb2 hq hfz)
   have s7:=fun u0 u1 u2 u3 u4 u5 u6=>mT b0 b1 b2 b3 b4 b5 b6 u0 u1 u2 u3 u4 u5 u6
   try simp only [Exit.inBlock,Exit.then]
   refine bodyPost_ret (by simp [results,Tryz.results187,s7,go_sem];try rfl) rfl ?_;exact HER.out _ _ hL h0 (bF (Nat.le_refl _) HO2.out.1)
theorem yQ {Lns:List (List Sc.Bs)} {vl:Value} {w:World} (hl:Sc.LinesAt w vl Lns) (hne:∀ ln ∈ Lns,ln≠[]) (hn:Lns.length≤5000) (hs:∀ ln ∈ Lns,nL ln) (hz:∀ ln ∈ Lns,∀ x ∈ ln,x.length≤5000) (he:Env w) (hf:FL w):
 Calls Tryz.prog 187 #[vl] w (PkQ w (cO Lns) (bL Lns)):=by
 obtain ⟨ad,cap,rfl,hc,hcs⟩:=hl;cases Lns with
 |nil=>exact yO w ad cap
 |cons h r=>
  rcases hcs with hcs|⟨g,o,rfl,hg,hcs⟩
  · cases hcs
  · obtain ⟨u,c0,hu⟩:=hcs 0 (by simp)
    have hr:∀ i (hi:i<r.length),∃ u,w.cell? ⟨g,o+1+i,none⟩=some u∧Sc.WordsAt w u r[i]:=fun i hi=>by
     have:=hcs (i+1) (by simpa using hi)
     simpa [Nat.add_assoc,Nat.add_comm 1 i] using this
    have hc':r.length+1≤cap:=hc
    by_cases h1:cap=1
    · subst h1
      obtain rfl:r=[]:=List.eq_nil_of_length_eq_zero (by omega);exact yP c0 hu hg (hne h List.mem_cons_self) (hz h List.mem_cons_self) he hf
    · exact xL c0 hu hg (hne h List.mem_cons_self) (hz h List.mem_cons_self) he hf hr hc' h1 (by simp at hn;omega) (fun ln hl=>hs ln (List.mem_cons_of_mem _ hl))
noncomputable def jV (t:ByteArray):Int:=if Sc.eA t 4096=0 then (if cO (Sc.cB t 4096)=0 then (if aU (bL (Sc.cB t 4096))=true then 0 else 24) else cO (Sc.cB t 4096)) else Sc.eA t 4096
def oB (t:ByteArray):Pg:=bL (Sc.cB t 4096)
set_option maxHeartbeats 6400000 in
theorem ZF (t:ByteArray) {w:World} (he:Env w) (hf:FL w):Calls Tryz.prog 141 #[.string t] w (PkQ w (jV t) (oB t)):=by
 have HLI:Hid (∀ w1,Calls Tryz.prog 138 #[.string t,.int .i64 4096] w1 fun e w'=>∃ v n,e= .returned (.tuple #[v,.int .i64 (Sc.eA t 4096),.int .i64 n])∧Sc.LinesAt w' v (Sc.cB t 4096)∧Below w1.heap.size w1 w'):=fun w1=>(xA t w1).mono fun e w' ⟨v,h1,h2,h3⟩=>⟨v,_,h1,by obtain ⟨ps,hp,hl⟩:=h2;rw [←hp];exact hl.at,h3⟩
 have HRL:Hid (Sc.eA t 4096=0→∀ w1 v,Below w.heap.size w w1→Sc.LinesAt w1 v (Sc.cB t 4096)→Calls Tryz.prog 187 #[v] w1 (PkQ w1 (cO (Sc.cB t 4096)) (bL (Sc.cB t 4096)))):=fun h0 w1 v hb hl=>by
  obtain ⟨s1,s2,s3,s4⟩:=IV h0;exact yQ hl s2 s1 s3 s4 (he.below hb) (hf.below hb)
 have HMA:Hid (∀ w1 (P:Pg) v1 v2 v3,Below w.heap.size w w1→PgAt w1 P v1 v2 v3→Calls Tryz.prog 188 #[.agg #[.string P.nm,.int .i64 P.a,.int .i64 P.b,.int .i64 P.c,v1,v2,v3]] w1 fun e w'=>e= .returned (.bool (aU P))∧Below w1.heap.size w1 w'):=fun w1 P v1 v2 v3 hb h=>FZ h (he.below hb) (hf.below hb)
 have HE:Hid (jV t=if Sc.eA t 4096=0 then (if cO (Sc.cB t 4096)=0 then (if aU (bL (Sc.cB t 4096))=true then 0 else 24) else cO (Sc.cB t 4096)) else Sc.eA t 4096):=rfl;have HPP:Hid (oB t=bL (Sc.cB t 4096)):=rfl;have HER:Hid (∀ er w',jV t=er→er≠0→Below w.heap.size w w'→PkQ w (jV t) (oB t) (.returned (.tuple #[.agg #[.string ⟨#[]⟩,.int .i64 0,.int .i64 0,.int .i64 0,.slice none 0 0,.slice none 0 0,.slice none 0 0],.int .i64 er])) w'):=fun er w' h1 h2 hb=>PkQ.err h1 h2 hb
 have HOK:Hid (∀ v1 v2 v3 w',jV t=0→Below w.heap.size w w'→OwnP w' w.heap.size (bL (Sc.cB t 4096)) v1 v2 v3→PkQ w (jV t) (oB t) (.returned (.tuple #[.agg #[.string (bL (Sc.cB t 4096)).nm,.int .i64 (bL (Sc.cB t 4096)).a,.int .i64 (bL (Sc.cB t 4096)).b,.int .i64 (bL (Sc.cB t 4096)).c,v1,v2,v3],.int .i64 0])) w'):=fun v1 v2 v3 w' h0 hb ho=>by
  rw [h0];exact ⟨_,_,_,_,v1,v2,v3,rfl,hb,fun _=>⟨rfl,rfl,rfl,rfl,ho⟩,fun hx=>absurd rfl hx⟩
 have HPQ:Hid (∀ w1 er P e w',PkQ w1 er P e w'→∃ s a b c v1 v2 v3,e= .returned (.tuple #[.agg #[.string s,.int .i64 a,.int .i64 b,.int .i64 c,v1,v2,v3],.int .i64 er])∧Below w1.heap.size w1 w'∧(er=0→s=P.nm∧a=P.a∧b=P.b∧c=P.c∧OwnP w' w1.heap.size P v1 v2 v3)∧(∃ a1 k1 c1 a2 k2 c2 a3 k3 c3,v1= .slice a1 k1 c1∧v2= .slice a2 k2 c2∧v3= .slice a3 k3 c3)):=fun w1 er P e w' h=>by
  obtain ⟨s,a,b,c,v1,v2,v3,h1,h2,h3,h4⟩:=h;refine ⟨s,a,b,c,v1,v2,v3,h1,h2,h3,?_⟩
  by_cases h0:er=0
  · obtain ⟨q1,q2,q3,o1,o2,o3⟩:=(h3 h0).2.2.2.2
    obtain ⟨a1,c1,e1⟩:=o1.1.len;obtain ⟨a2,c2,e2⟩:=o2.1.len;obtain ⟨a3,c3,e3⟩:=o3.1.len;exact ⟨_,_,_,_,_,_,_,_,_,e1,e2,e3⟩
  · obtain ⟨_,_,_,_,e1,e2,e3⟩:=h4 h0
    exact ⟨_,_,_,_,_,_,_,_,_,e1,e2,e3⟩
 clear he hf;generalize hHQ:PkQ w (jV t) (oB t)=HQ at*;clear hHQ HPP;generalize jV t=PE at*;generalize Sc.eA t 4096=AE at*;generalize Sc.cB t 4096=AL at*;generalize cO AL=LE at*;generalize bL AL=LP at*;have HB0:Hid (BxPF (w.alloc (.cells #[.string ⟨#[]⟩,.int .i64 0,.int .i64 0,.int .i64 0,.slice none 0 0,.slice none 0 0,.slice none 0 0] 54)) w.heap.size ⟨#[]⟩ 0 0 0 (.slice none 0 0) (.slice none 0 0) (.slice none 0 0)):=BxPF.new rfl _ _ _ _ _ _ _;have HKB:Hid (KeepP fun w1=>BxPF w1 w.heap.size ⟨#[]⟩ 0 0 0 (.slice none 0 0) (.slice none 0 0) (.slice none 0 0)):=eC _ _ _ _ _ _ _ _
 by_cases ha:AE=0
 · subst ha
   have HR2:=aB (HRL.out rfl)
   by_cases hl:LE=0
   · subst hl
     have HMB:Hid (∀ w1 v1 v2 v3,Below w.heap.size w w1→PgAt w1 LP v1 v2 v3→Calls Tryz.prog 188 #[.agg #[.string LP.nm,.int .i64 LP.a,.int .i64 LP.b,.int .i64 LP.c,v1,v2,v3]] w1 fun e w'=>e= .returned (.bool (aU LP))∧Below w1.heap.size w1 w'):=fun w1 v1 v2 v3 hb h=>HMA.out w1 LP v1 v2 v3 hb h
     cases hwb:aU LP
     · have hL:PE=24:=by rw [HE.out];simp [hwb]
       rw [hwb] at HMB
       go_enter Tryz.func141,Tryz.ntmps141
       go_upto_region 7 with (first
        |(go_at_call 138;refine (HLI.out _).mono ?_;rintro e w1 ⟨v,n,rfl,hla,hb1⟩;have HLA:=aB hla;have HB1:Hid (Below w.heap.size w w1∧BxPF w1 w.heap.size ⟨#[]⟩ 0 0 0 (.slice none 0 0) (.slice none 0 0) (.slice none 0 0)):=⟨aA (aC _ _) hb1,HKB.out _ _ HB0.out hb1⟩;obtain ⟨adv,capv,rfl,_⟩:=hla;clear hb1)
        |(go_at_call 187;refine (HR2.out _ _ HB1.out.1 HLA.out).mono ?_;rintro e w2 hq;obtain ⟨s,a,b,c,v1,v2,v3,rfl,hb2,hok2,a1,k1,c1,a2,k2,c2,a3,k3,c3,rfl,rfl,rfl⟩:=HPQ.out _ _ _ _ _ hq;obtain ⟨rfl,rfl,rfl,rfl,how⟩:=hok2 rfl;have HB3:Hid (Below w.heap.size w (w2.alloc (.cells #[.string LP.nm,.int .i64 LP.a,.int .i64 LP.b,.int .i64 LP.c,.slice a1 k1 c1,.slice a2 k2 c2,.slice a3 k3 c3] 54))∧BxPF (w2.alloc (.cells #[.string LP.nm,.int .i64 LP.a,.int .i64 LP.b,.int .i64 LP.c,.slice a1 k1 c1,.slice a2 k2 c2,.slice a3 k3 c3] 54)) w.heap.size ⟨#[]⟩ 0 0 0 (.slice none 0 0) (.slice none 0 0) (.slice none 0 0)∧OwnP (w2.alloc (.cells #[.string LP.nm,.int .i64 LP.a,.int .i64 LP.b,.int .i64 LP.c,.slice a1 k1 c1,.slice a2 k2 c2,.slice a3 k3 c3] 54)) w1.heap.size LP (.slice a1 k1 c1) (.slice a2 k2 c2) (.slice a3 k3 c3)):=⟨aA (aA HB1.out.1 hb2) (aC _ _),HKB.out _ _ (HKB.out _ _ HB1.out.2 hb2) (aC _ _),how.below (aC _ _)⟩;clear hb2 hq hok2 how))
       have HB12:Hid (w.heap.size<w1.heap.size):=HB1.out.2.1.2.2.2.2.2.2.2;have HY3:Hid (BxPF (w2.alloc (.cells #[.string LP.nm,.int .i64 LP.a,.int .i64 LP.b,.int .i64 LP.c,.slice a1 k1 c1,.slice a2 k2 c2,.slice a3 k3 c3] 54)) w2.heap.size LP.nm LP.a LP.b LP.c (.slice a1 k1 c1) (.slice a2 k2 c2) (.slice a3 k3 c3)):=BxPF.new rfl _ _ _ _ _ _ _;generalize w2.alloc (.cells #[.string LP.nm,.int .i64 LP.a,.int .i64 LP.b,.int .i64 LP.c,.slice a1 k1 c1,.slice a2 k2 c2,.slice a3 k3 c3] 54)=w3 at*;generalize w2.heap.size=M at*;obtain ⟨⟨y0,y1,y2,y3,y4,y5,y6,y7⟩,_⟩:=HY3.out
       go_wp2_with (go_at_call 188;refine (HMB.out _ _ _ _ HB3.out.1 HB3.out.2.2.at).mono ?_;rintro e w4 ⟨rfl,ok4⟩;have HO4:Hid (Below w.heap.size w w4∧BxPF w4 w.heap.size ⟨#[]⟩ 0 0 0 (.slice none 0 0) (.slice none 0 0) (.slice none 0 0)):=⟨aA HB3.out.1 ok4,HKB.out _ _ HB3.out.2.1 ok4⟩;obtain ⟨⟨b0,b1,b2,b3,b4,b5,b6,b7⟩,hfz⟩:=HO4.out.2;have f0:=hfz 0 (by decide);have f1:=hfz 1 (by decide);have f2:=hfz 2 (by decide);have f3:=hfz 3 (by decide);have f4:=hfz 4 (by decide);have f5:=hfz 5 (by decide);have f6:=hfz 6 (by decide);clear ok4 hfz)
       have s7:=fun u0 u1 u2 u3 u4 u5 u6=>mT b0 b1 b2 b3 b4 b5 b6 u0 u1 u2 u3 u4 u5 u6
       try simp only [Exit.inBlock,Exit.then]
       refine bodyPost_ret (by simp [results,Tryz.results141,s7,go_sem];try rfl) rfl ?_;exact HER.out _ _ hL (by decide) (bF (Nat.le_refl _) HO4.out.1)
     · have hL:PE=0:=by rw [HE.out];simp [hwb]
       rw [hwb] at HMB
       go_enter Tryz.func141,Tryz.ntmps141
       go_upto_region 7 with (first
        |(go_at_call 138;refine (HLI.out _).mono ?_;rintro e w1 ⟨v,n,rfl,hla,hb1⟩;have HLA:=aB hla;have HB1:Hid (Below w.heap.size w w1∧BxPF w1 w.heap.size ⟨#[]⟩ 0 0 0 (.slice none 0 0) (.slice none 0 0) (.slice none 0 0)):=⟨aA (aC _ _) hb1,HKB.out _ _ HB0.out hb1⟩;obtain ⟨adv,capv,rfl,_⟩:=hla;clear hb1)
        |(go_at_call 187;refine (HR2.out _ _ HB1.out.1 HLA.out).mono ?_;rintro e w2 hq;obtain ⟨s,a,b,c,v1,v2,v3,rfl,hb2,hok2,a1,k1,c1,a2,k2,c2,a3,k3,c3,rfl,rfl,rfl⟩:=HPQ.out _ _ _ _ _ hq;obtain ⟨rfl,rfl,rfl,rfl,how⟩:=hok2 rfl;have HB3:Hid (Below w.heap.size w (w2.alloc (.cells #[.string LP.nm,.int .i64 LP.a,.int .i64 LP.b,.int .i64 LP.c,.slice a1 k1 c1,.slice a2 k2 c2,.slice a3 k3 c3] 54))∧BxPF (w2.alloc (.cells #[.string LP.nm,.int .i64 LP.a,.int .i64 LP.b,.int .i64 LP.c,.slice a1 k1 c1,.slice a2 k2 c2,.slice a3 k3 c3] 54)) w.heap.size ⟨#[]⟩ 0 0 0 (.slice none 0 0) (.slice none 0 0) (.slice none 0 0)∧OwnP (w2.alloc (.cells #[.string LP.nm,.int .i64 LP.a,.int .i64 LP.b,.int .i64 LP.c,.slice a1 k1 c1,.slice a2 k2 c2,.slice a3 k3 c3] 54)) w1.heap.size LP (.slice a1 k1 c1) (.slice a2 k2 c2) (.slice a3 k3 c3)):=⟨aA (aA HB1.out.1 hb2) (aC _ _),HKB.out _ _ (HKB.out _ _ HB1.out.2 hb2) (aC _ _),how.below (aC _ _)⟩;clear hb2 hq hok2 how))
       have HB12:Hid (w.heap.size<w1.heap.size):=HB1.out.2.1.2.2.2.2.2.2.2;have HY3:Hid (BxPF (w2.alloc (.cells #[.string LP.nm,.int .i64 LP.a,.int .i64 LP.b,.int .i64 LP.c,.slice a1 k1 c1,.slice a2 k2 c2,.slice a3 k3 c3] 54)) w2.heap.size LP.nm LP.a LP.b LP.c (.slice a1 k1 c1) (.slice a2 k2 c2) (.slice a3 k3 c3)):=BxPF.new rfl _ _ _ _ _ _ _;generalize w2.alloc (.cells #[.string LP.nm,.int .i64 LP.a,.int .i64 LP.b,.int .i64 LP.c,.slice a1 k1 c1,.slice a2 k2 c2,.slice a3 k3 c3] 54)=w3 at*;generalize w2.heap.size=M at*;obtain ⟨⟨y0,y1,y2,y3,y4,y5,y6,y7⟩,_⟩:=HY3.out
       go_wp2_with (go_at_call 188;refine (HMB.out _ _ _ _ HB3.out.1 HB3.out.2.2.at).mono ?_;rintro e w4 ⟨rfl,ok4⟩;have HO4:Hid (Below w.heap.size w w4∧BxPF w4 w.heap.size ⟨#[]⟩ 0 0 0 (.slice none 0 0) (.slice none 0 0) (.slice none 0 0)):=⟨aA HB3.out.1 ok4,HKB.out _ _ HB3.out.2.1 ok4⟩;have HP4:=aB (HB3.out.2.2.below ok4);have HY4:=aB (eC _ _ _ _ _ _ _ _ _ _ HY3.out ok4);clear y0 y1 y2 y3 y4 y5 y6 y7;obtain ⟨⟨y0,y1,y2,y3,y4,y5,y6,y7⟩,_⟩:=HY4.out;obtain ⟨⟨b0,b1,b2,b3,b4,b5,b6,b7⟩,hfz⟩:=HO4.out.2;have f0:=hfz 0 (by decide);have f1:=hfz 1 (by decide);have f2:=hfz 2 (by decide);have f3:=hfz 3 (by decide);have f4:=hfz 4 (by decide);have f5:=hfz 5 (by decide);have f6:=hfz 6 (by decide);clear ok4 hfz)
       have s7:=fun u0 u1 u2 u3 u4 u5 u6=>mT b0 b1 b2 b3 b4 b5 b6 u0 u1 u2 u3 u4 u5 u6
       try simp only [Exit.inBlock,Exit.then]
       refine bodyPost_ret (by simp [results,Tryz.results141,s7,go_sem];try rfl) rfl ?_;refine HOK.out _ _ _ _ hL (bF (Nat.le_refl _) HO4.out.1) ?_;exact (HP4.out.of fun g hg=>QO (by have:=HB12.out;omega)).base (Nat.le_of_lt HB12.out)
   · have hL:PE=LE:=by rw [HE.out];simp [hl]
     have hre:(LE==0)=false:=by simpa using hl
     go_enter Tryz.func141,Tryz.ntmps141
     go_wp2_with (first
      |(go_at_call 138;refine (HLI.out _).mono ?_;rintro e w1 ⟨v,n,rfl,hla,hb1⟩;have HLA:=aB hla;have HB1:Hid (Below w.heap.size w w1∧BxPF w1 w.heap.size ⟨#[]⟩ 0 0 0 (.slice none 0 0) (.slice none 0 0) (.slice none 0 0)):=⟨aA (aC _ _) hb1,HKB.out _ _ HB0.out hb1⟩;obtain ⟨adv,capv,rfl,_⟩:=hla;clear hb1)
      |(go_at_call 187;refine (HR2.out _ _ HB1.out.1 HLA.out).mono ?_;rintro e w2 hq;obtain ⟨s,a,b,c,v1,v2,v3,rfl,hb2,_,a1,k1,c1,a2,k2,c2,a3,k3,c3,rfl,rfl,rfl⟩:=HPQ.out _ _ _ _ _ hq;have HO4:Hid (Below w.heap.size w (w2.alloc (.cells #[.string s,.int .i64 a,.int .i64 b,.int .i64 c,.slice a1 k1 c1,.slice a2 k2 c2,.slice a3 k3 c3] 54))∧BxPF (w2.alloc (.cells #[.string s,.int .i64 a,.int .i64 b,.int .i64 c,.slice a1 k1 c1,.slice a2 k2 c2,.slice a3 k3 c3] 54)) w.heap.size ⟨#[]⟩ 0 0 0 (.slice none 0 0) (.slice none 0 0) (.slice none 0 0)):=⟨aA (aA HB1.out.1 hb2) (aC _ _),HKB.out _ _ (HKB.out _ _ HB1.out.2 hb2) (aC _ _)⟩;obtain ⟨⟨b0,b1,b2,b3,b4,b5,b6,b7⟩,hfz⟩:=HO4.out.2;have f0:=hfz 0 (by decide);have f1:=hfz 1 (by decide);have f2:=hfz 2 (by decide);have f3:=hfz 3 (by decide);have f4:=hfz 4 (by decide);have f5:=hfz 5 (by decide);have f6:=hfz 6 (by decide);clear hb2 hq hfz))
     have s7:=fun u0 u1 u2 u3 u4 u5 u6=>mT b0 b1 b2 b3 b4 b5 b6 u0 u1 u2 u3 u4 u5 u6
     try simp only [Exit.inBlock,Exit.then]
     refine bodyPost_ret (by simp [results,Tryz.results141,s7,go_sem];try rfl) rfl ?_;exact HER.out _ _ hL hl (bF (Nat.le_refl _) HO4.out.1)
 · have hL:PE=AE:=by rw [HE.out,if_neg ha]
   have hre:(AE==0)=false:=by simpa using ha
   go_enter Tryz.func141,Tryz.ntmps141
   go_wp2_with (go_at_call 138;refine (HLI.out _).mono ?_;rintro e w1 ⟨v,n,rfl,_,hb1⟩;have HO4:Hid (Below w.heap.size w w1∧BxPF w1 w.heap.size ⟨#[]⟩ 0 0 0 (.slice none 0 0) (.slice none 0 0) (.slice none 0 0)):=⟨aA (aC _ _) hb1,HKB.out _ _ HB0.out hb1⟩;obtain ⟨⟨b0,b1,b2,b3,b4,b5,b6,b7⟩,hfz⟩:=HO4.out.2;have f0:=hfz 0 (by decide);have f1:=hfz 1 (by decide);have f2:=hfz 2 (by decide);have f3:=hfz 3 (by decide);have f4:=hfz 4 (by decide);have f5:=hfz 5 (by decide);have f6:=hfz 6 (by decide);clear hb1 hfz)
   have s7:=fun u0 u1 u2 u3 u4 u5 u6=>mT b0 b1 b2 b3 b4 b5 b6 u0 u1 u2 u3 u4 u5 u6
   try simp only [Exit.inBlock,Exit.then]
   refine bodyPost_ret (by simp [results,Tryz.results141,s7,go_sem];try rfl) rfl ?_;exact HER.out _ _ hL ha (bF (Nat.le_refl _) HO4.out.1)
noncomputable def pkL (P:Pg):List (List Sc.Bs):=[[112,97,99,107,97,103,101],P.nm.data.toList,(aL P.a P.b P.c).data.toList]::(cX (lwK 0).data.toList P.d++(cX (lwK 1).data.toList P.p++(cX (lwK 2).data.toList P.o++[])))
theorem nN {P:Pg} (h:gV P=true):Sc.aK P.nm.data.toList=true∧bB P.a P.b P.c=true∧(dZ none P.d=true∧dZ none P.p=true∧dZ none P.o=true):=by
 unfold gV bV at h;simp only [Bool.and_eq_true] at h;exact ⟨h.1.1.1,h.1.1.2,h.1.2.1.2,h.1.2.2.1.2,h.1.2.2.2.2⟩
theorem ZG {P:Pg} (h:gV P=true):Sc.aM (pkL P)=kQ P:=by
 obtain ⟨_,_,h1,h2,h3⟩:=nN h;have e:∀ (l:List Sc.Bs) (L:List (List Sc.Bs)),Sc.aM (l::L)=Sc.aW l++Sc.aM L:=fun l L=>by simp [Sc.aM]
 have e2:∀ (K L:List (List Sc.Bs)),Sc.aM (K++L)=Sc.aM K++Sc.aM L:=fun K L=>by simp [Sc.aM]
 unfold pkL kQ;rw [e,e2,e2,e2,eP fun d hd=>(bU h1 d hd).2,eP fun d hd=>(bU h2 d hd).2,eP fun d hd=>(bU h3 d hd).2,lW (by simp),qQ,qQ,Lib.join_one];simp [iE,Sc.aM]
theorem Fb {P:Pg} (h:gV P=true):(pkL P).all Sc.isL=true:=by
 obtain ⟨hn,hv,h1,h2,h3⟩:=nN h;unfold pkL;rw [List.all_cons,List.all_append,List.all_append,List.all_append,jK (by decide) (bU h1),jK (by decide) (bU h2),jK (by decide) (bU h3)];have h4:Sc.isW (aL P.a P.b P.c).data.toList=true:=lB hv [] rfl;have h5:=AO hn;unfold Sc.isL;rw [List.all_cons,List.all_cons,List.all_cons,h4,h5];rfl
theorem QP {P:Pg} (h:gV P=true):aV pkW 0 [[],[],[]] (cX (lwK 0).data.toList P.d++(cX (lwK 1).data.toList P.p++(cX (lwK 2).data.toList P.o++[])))=(0,[P.d,P.p,P.o]):=by
 obtain ⟨_,_,h1,h2,h3⟩:=nN h;obtain ⟨a1,b1,e1⟩:=fR (X:=pkW) (x:=(lwK 0).data.toList) (k:=0) (by decide) P.d (cX (lwK 1).data.toList P.p++(cX (lwK 2).data.toList P.o++[])) [[],[],[]] 0 (Nat.le_refl _) (by decide) h1;rw [e1];obtain ⟨a2,b2,e2⟩:=fR (X:=pkW) (x:=(lwK 1).data.toList) (k:=1) (by decide) P.p (cX (lwK 2).data.toList P.o++[]) [P.d,[],[]] a1 (by omega) (by simp) h2;rw [show ([[],[],[]]:List (List Dp)).set 0 (([[],[],[]]:List (List Dp)).getD 0 []++P.d)=[P.d,[],[]] from rfl,e2];obtain ⟨a3,b3,e3⟩:=fR (X:=pkW) (x:=(lwK 2).data.toList) (k:=2) (by decide) P.o [] [P.d,P.p,[]] a2 (by omega) (by simp) h3;rw [show ([P.d,[],[]]:List (List Dp)).set 1 (([P.d,[],[]]:List (List Dp)).getD 1 []++P.p)=[P.d,P.p,[]] from rfl,e3];rfl
theorem Cl {P:Pg} (h:aU P=true):jV (bA P)=0∧oB (bA P)=P:=by
 have hw:=h;unfold aU at h;rw [Bool.and_eq_true,decide_eq_true_eq] at h;obtain ⟨hs,hl⟩:=h;obtain ⟨hn,hv,_⟩:=nN hs;have ht:bA P=⟨(kQ P).toArray⟩:=by unfold bA;rw [if_pos hw]
 have hsc:Sc.bI (bA P).data.toList [] [] []= .ok (pkL P):=by
  have:=Sc.mW (pkL P) [] (Fb hs)
  rw [ZG hs] at this;rw [ht]
  simpa using this
 have hz:¬ ((4096:Int)<((bA P).size:Int)):=by
  rw [ht]
  have:(⟨(kQ P).toArray⟩:ByteArray).size=(kQ P).length:=by show (kQ P).toArray.size=_;simp
  rw [this];omega
 have hE:Sc.eA (bA P) 4096=0:=by unfold Sc.eA;rw [if_neg hz,hsc];rfl
 have hL:Sc.cB (bA P) 4096=pkL P:=by unfold Sc.cB;rw [if_neg hz,hsc];rfl
 obtain ⟨v1,v2,v3,v4⟩:=rI hv;have hb:Sc.ba (aL P.a P.b P.c).data.toList=aL P.a P.b P.c:=Sc.kL _
 have hh:fJ [[112,97,99,107,97,103,101],P.nm.data.toList,(aL P.a P.b P.c).data.toList]=0:=by
  unfold fJ;rw [if_pos ⟨rfl,rfl⟩];show (if Sc.aK P.nm.data.toList=true then (if okP (Sc.ba (aL P.a P.b P.c).data.toList)=true then 0 else 20) else 23)=(0:Int);rw [if_pos hn,hb,if_pos v1]
 have hle:cO (pkL P)=0:=by
  unfold pkL cO
  simp only
  rw [if_pos hh,QP hs]
 have hlp:bL (pkL P)=P:=by
  unfold pkL bL
  simp only
  rw [QP hs];show (⟨Sc.ba P.nm.data.toList,eS (Sc.ba (aL P.a P.b P.c).data.toList),eT (Sc.ba (aL P.a P.b P.c).data.toList),eU (Sc.ba (aL P.a P.b P.c).data.toList),P.d,P.p,P.o⟩:Pg)=P;rw [hb,v2,v3,v4,Sc.kL]
 unfold jV oB;rw [hE,hL,hle,hlp,hw];exact ⟨rfl,rfl⟩
end Go.Proofs.YtmnhnofnlcbliaaGreatDoor
