/- Tr1, Ts1, ScLi2, ScLi3, Ta1, Ta2, Td1: their declarations that are needed, laid in one text, remarks and blanks left out. -/
import Derived.Test.YtlmpiohbmlddiaaGreatDoorScA
import Derived.Test.YtlmpiohbmlddiaaGreatDoorShelfO
import Derived.Test.YtlmpiohbmlddiaaGreatDoorMg09
namespace Go.Proofs.YtlmpiohbmlddiaaGreatDoor
open Go.RowKit
set_option maxRecDepth 100000
set_option maxHeartbeats 1600000 in
theorem BQ (A B:List ByteArray) (hAB:A.length=B.length) (hsz:A.length≤9223372036854775807) (ad bd:Option Addr) (ca cb:Nat) (w:World) (hla:∀ i (h:i<A.length),∃ g o,ad=some ⟨g,o,none⟩∧StIn w g (o+i) A[i]) (hlb:∀ i (h:i<B.length),∃ g o,bd=some ⟨g,o,none⟩∧StIn w g (o+i) B[i]):
 Calls Tryz.prog 47 #[.slice ad A.length ca,.slice bd B.length cb] w fun e w'=>e= .returned (.bool (eqB A B))∧Below w.heap.size w w':=by
 have HL:Hid (∀ w1,Below w.heap.size w w1→∀ i (h:i<A.length) (h2:i<B.length),(∃ g o,ad=some ⟨g,o,none⟩∧StIn w1 g (o+i) A[i])∧∃ g o,bd=some ⟨g,o,none⟩∧StIn w1 g (o+i) B[i]):=fun w1 hb i hi hi2=>⟨by obtain ⟨g,o,e,h⟩:=hla i hi;exact ⟨g,o,e,h.below hb⟩,by obtain ⟨g,o,e,h⟩:=hlb i hi2;exact ⟨g,o,e,h.below hb⟩⟩
 have HAB:=aA hAB;clear hla hlb;rw [←hAB];clear hAB
 go_enter Tryz.func47,Tryz.ntmps47
 go_wp2_with fail
 go_loopw [5] (fun i wr=>∃ k:Nat,k≤A.length∧i= .int .i64 k∧Below w.heap.size w wr∧∀ j (h:j<k) (h1:j<A.length) (h2:j<B.length),A[j]=B[j]) (fun i _=>A.length - (intOf i).toNat)
 case atStart=>exact ⟨0,Nat.zero_le _,rfl,Below.refl _ _,fun j h=>by omega⟩
 case round=>
  obtain ⟨k,hk,rfl,hb,hall⟩:=hrel;have HALL:=aA hall;have HB:=aA hb;clear hall
  by_cases hlt:k<A.length
  · have hltB:k<B.length:=HAB.out ▸ hlt
    obtain ⟨⟨ga,oa,rfl,hsa⟩,⟨gb,ob,rfl,hsb⟩⟩:=HL.out wr hb k hlt hltB;have HO:Hid (Below w.heap.size w wr∧StIn wr ga (oa+k) A[k]∧StIn wr gb (ob+k) B[k]):=⟨hb,hsa,hsb⟩;have HK:Hid (KeepP fun w1=>Below w.heap.size w w1∧StIn w1 ga (oa+k) A[k]∧StIn w1 gb (ob+k) B[k]):=(aD w).and ((dU _ _ _).and (dU _ _ _));have HNE:Hid (A[k]≠B[k]→eqB A B=false):=fun h=>bX fun e=>by subst e;exact h rfl
    have HST:Hid (A[k]=B[k]→∀ j (h:j<k+1) (h1:j<A.length) (h2:j<B.length),A[j]=B[j]):=fun h j hj h1 h2=>by
     rcases Nat.lt_or_ge j k with hjk|hjk
     · exact HALL.out j hjk h1 h2
     · obtain rfl:j=k:=by omega
       exact h
    generalize A[k]=s at*;generalize B[k]=t at*;clear hsa hsb
    by_cases hq:s=t
    · have HR:=aA (HST.out hq)
      have hqq:(s.toList==t.toList)=true:=by rw [hq];simp
      clear hb HNE HST HALL hq
      go_wp2_with fail
      refine aM HK (by kernel_rfl) (by kernel_rfl) (by first|exact HO.out|exact HK.out.drew HO.out) ?_;intro C HIN HOUT;clear HO
      repeat
       (with_reducible refine wpQuiet_step (fun K hK=> ?_)
        go_simp
        first
         |(refine hK _ ?_;clear hK K)
         |(apply Exists.intro;refine ⟨fun w1 hC=> ?_,hK _ ?_⟩;(focus ((first|(exact rfl)|(obtain ⟨hb1,⟨p0,p1⟩,⟨q0,q1⟩⟩:=HOUT.out w1 hC;clear hC;go_simp;first|done|exact rfl));done));clear hK K))
      refine wpQuiet_nil ?_;intro wn hC;have HO:=aA (HOUT.out _ hC);clear hC HIN HOUT C;obtain ⟨hb1,⟨p0,p1⟩,⟨q0,q1⟩⟩:=HO.out
      go_wp2
      exact ⟨⟨k+1,by omega,by go_num,HO.out.1,HR.out⟩,by simp [intOf];omega⟩
    · have HR:=aA (HNE.out hq)
      have hqq:(s.toList==t.toList)=false:=by rw [beq_eq_false_iff_ne];exact fun e=>hq (wS e)
      clear hb HNE HST HALL hq
      go_wp2_with fail
      refine aM HK (by kernel_rfl) (by kernel_rfl) (by first|exact HO.out|exact HK.out.drew HO.out) ?_;intro C HIN HOUT;clear HO
      repeat
       (with_reducible refine wpQuiet_step (fun K hK=> ?_)
        go_simp
        first
         |(refine hK _ ?_;clear hK K)
         |(apply Exists.intro;refine ⟨fun w1 hC=> ?_,hK _ ?_⟩;(focus ((first|(exact rfl)|(obtain ⟨hb1,⟨p0,p1⟩,⟨q0,q1⟩⟩:=HOUT.out w1 hC;clear hC;go_simp;first|done|exact rfl));done));clear hK K))
      refine wpQuiet_nil ?_;intro wn hC;have HO:=aA (HOUT.out _ hC);clear hC HIN HOUT C;obtain ⟨hb1,⟨p0,p1⟩,⟨q0,q1⟩⟩:=HO.out
      go_wp2
      go_ret;exact ⟨aC HR.out.symm,HO.out.1⟩
  · have hke:k=A.length:=by omega
    subst hke;have HR:Hid (eqB A B=true):=bC (List.ext_getElem HAB.out fun j h1 h2=>HALL.out j h1 h1 h2);clear hb
    go_wp2
    go_ret;exact ⟨aC HR.out.symm,HB.out⟩
theorem IY (ad bd:Option Addr) (n m ca cb:Nat) (h:n≠m) (w:World):
 Calls Tryz.prog 47 #[.slice ad n ca,.slice bd m cb] w fun e w'=>e= .returned (.bool false)∧Below w.heap.size w w':=by
 have hn:((n:Int)=(m:Int))=False:=by simp;omega
 go_enter Tryz.func47,Tryz.ntmps47
 go_wp2
 go_ret;exact ⟨rfl,Below.refl _ _⟩
theorem PathAt.el {w:World} {v:Value} {L:List ByteArray} (h:PathAt w v L):∃ ad cap,v= .slice ad L.length cap∧L.length≤cap∧∀ i (_:i<L.length),∃ g o,ad=some ⟨g,o,none⟩∧StIn w g (o+i) L[i]:=by
 obtain ⟨ad,cap,rfl,hc,hl⟩:=h;refine ⟨ad,cap,rfl,hc,fun i hi=> ?_⟩
 rcases hl with rfl|⟨g,o,e,hs⟩
 · cases hi
 · exact ⟨g,o,e,hs i hi⟩
theorem tH {A B:List ByteArray} {va vb:Value} {w:World} (ha:PathAt w va A) (hb:PathAt w vb B) (hsz:A.length≤9223372036854775807):
 Calls Tryz.prog 47 #[va,vb] w fun e w'=>e= .returned (.bool (eqB A B))∧Below w.heap.size w w':=by
 obtain ⟨ad,ca,rfl,_,hl⟩:=ha.el;obtain ⟨bd,cb,rfl,_,hm⟩:=hb.el
 by_cases hn:A.length=B.length
 · exact BQ A B hn hsz ad bd ca cb w hl hm
 · rw [bX fun e=>hn (by rw [e])]
   exact IY _ _ _ _ _ _ hn w
set_option maxHeartbeats 1600000 in
theorem nM {L:List Dr} {v:Value} {p:List ByteArray} {vp:Value} {w:World} (h:DirsAt w v L) (hz:L.length≤9223372036854775807) (hf:FitD L) (hp:PathAt w vp p):
 Calls Tryz.prog 147 #[.agg #[v],vp] w fun e w'=>e= .returned (.int .i64 (bA L p))∧Below w.heap.size w w':=by
 have HE:Hid (∀ w1,Below w.heap.size w w1→∀ u A,PathAt w1 u A→A.length≤9223372036854775807→Calls Tryz.prog 47 #[u,vp] w1 fun e w'=>e= .returned (.bool (eqB A p))∧Below w1.heap.size w1 w'):=fun w1 hb u A hu hl=>tH hu (hp.below hb) hl
 obtain ⟨ad,cap,rfl,hc,hsl⟩:=h.sl
 have HS:Hid (∀ w1,Below w.heap.size w w1→∀ i (_:i<L.length),∃ g o,ad=some ⟨g,o,none⟩∧∃ u v1 v2 v3,DrIn w1 g (o+i*9) L[i] u v1 v2 v3):=fun w1 hb i hi=>by
  obtain ⟨g,o,e,u,v1,v2,v3,hd⟩:=hsl i hi;exact ⟨g,o,e,u,v1,v2,v3,hd.below hb⟩
 have HF:=aA hf;obtain ⟨pd,pc,rfl⟩:=hp.sl;clear h hp hsl hf
 go_enter Tryz.func147,Tryz.ntmps147
 go_wp2_with fail
 go_loopw [5] (fun i wr=>∃ k:Nat,k≤L.length∧i= .int .i64 k∧(Below w.heap.size w wr∧BxT wr w.heap.size (.slice ad L.length cap))∧∀ j (_:j<k) (h1:j<L.length),L[j].pa≠p) (fun i _=>L.length - (intOf i).toNat)
 case atStart=>exact ⟨0,Nat.zero_le _,rfl,⟨aF _ _,BxT.new _ _⟩,fun j h=>by omega⟩
 case round=>
  obtain ⟨k,hk,rfl,⟨hb,bx0,bx1⟩,hall⟩:=hrel;have HALL:=aA hall;have HB:=aA hb;clear hall
  by_cases hlt:k<L.length
  · obtain ⟨g,o,rfl,u,v1,v2,v3,⟨c0,c1,c2,c3,c4,c5,c6,c7,c8⟩,⟨hpa,hpk⟩,hg⟩:=HS.out wr hb k hlt
    have HC:=aA (HE.out wr hb u _ hpa (HF.out _ (List.getElem_mem hlt)));have HY:Hid (L[k].pa=p→bA L p=k):=fun h=>iM hlt h HALL.out
    have HN:Hid (L[k].pa≠p→∀ j (_:j<k+1) (h1:j<L.length),L[j].pa≠p):=fun h j hj h1=>by
     rcases Nat.lt_or_ge j k with hjk|hjk
     · exact HALL.out j hjk h1
     · obtain rfl:j=k:=by omega
       exact h
    obtain ⟨ua,uc,rfl⟩:=hpa.sl;clear c1 c2 c3 c4 c5 c6 c7 c8 hpk hpa hb;have HBX:Hid (BxT wr w.heap.size (.slice (some ⟨g,o,none⟩) L.length cap)):=⟨bx0,bx1⟩;generalize L[k].pa.length=n at*
    by_cases hq:L[k].pa=p
    · have HR:=aA (HY.out hq)
      rw [bC hq] at HC;clear HY HN HALL hq
      go_wp2_with (go_at_call 47;refine HC.out.mono ?_;rintro x w1 ⟨rfl,ok⟩)
      go_ret;exact ⟨bN HR.out.symm,aB HB.out ok⟩
    · have HR:=aA (HN.out hq)
      rw [bX hq] at HC;clear HY HN HALL hq
      go_wp2_with (go_at_call 47;refine HC.out.mono ?_;rintro x w1 ⟨rfl,ok⟩)
      exact ⟨⟨k+1,by omega,by go_num,⟨aB HB.out ok,bI _ _ _ _ HBX.out ok⟩,HR.out⟩,by simp [intOf];omega⟩
  · have hke:k=L.length:=by omega
    subst hke;have HR:Hid (bA L p= -1):=pX fun j h1=>HALL.out j h1 h1
    clear hb
    go_wp2
    go_ret;exact ⟨bN HR.out.symm,HB.out⟩
theorem SX {w:World} {B:Nat} {v:Value} {n:Nat} {xs:List Value} (h:w.ownsRow B 9 1 v n xs):∃ a c,v= .slice a n c:=by
 rcases h.2 with ⟨rfl,rfl⟩|⟨g,cap,cur,rfl,_⟩
 · exact ⟨none,0,rfl⟩
 · exact ⟨_,cap,rfl⟩
theorem xK (w:World) (B:Nat):w.ownsRow B 9 1 (.slice none 0 0) 0 []:=⟨rfl,Or.inl ⟨rfl,rfl⟩⟩
set_option maxHeartbeats 1600000 in
theorem BR {p:List ByteArray} {v:Value} {w:World} (h:PathAt w v p) (s:ByteArray) (hl:p.length≤14073748835124):
 Calls Tryz.prog 148 #[v,.string s] w fun e w'=>∃ a c,e= .returned (.slice a (p.length+1) c)∧PathAt w' (.slice a (p.length+1) c) (p++[s])∧Below w.heap.size w w':=by
 obtain ⟨ad,cap,rfl,hcp,hc⟩:=h;obtain ⟨i0,hi,hz0,hz1,hz2⟩:=Sc.bW Sc.kB
 have HFIN:Hid (∀ w1 v1 w2 v2,Below w.heap.size w w1→w1.ownsRow w.heap.size 9 1 v1 p.length (pcs p)→w2.ownsRow w.heap.size 9 1 v2 (p.length+1) (pcs p++[.string s])→(w1.alloc (.cells #[.string s] 9)).grownBy w2 v1.ownBlock→∃ a c,v2= .slice a (p.length+1) c∧PathAt w2 (.slice a (p.length+1) c) (p++[s])∧Below w.heap.size w w2):=fun w1 v1 w2 v2 hb h1 h2 h3=>by
  have ho:OwnPa w2 w.heap.size v2 (p++[s]):=by unfold OwnPa;rw [wZ,List.length_append];exact h2
  obtain ⟨a,c,rfl,_⟩:=ho.form;refine ⟨a,c,by rw [List.length_append];rfl,?_,hb.grown (iN (aF _ _) h3) hb.size (fun q hq=>(World.ownsRow.lt h1 q hq).1)⟩
  have:=ho.at
  rw [List.length_append] at this;exact this
 cases ad with
 |none=>
  obtain rfl:p=[]:=by
   rcases hc with e|⟨_,_,q,_⟩
   · exact e
   · cases q
  have HON:=aA (xK w w.heap.size);rw [List.length_nil];clear hc;have t1:True:=trivial
  go_enter Tryz.func148,Tryz.ntmps148
  go_wp2_with (at_builtin;refine wpList_append_own_wide _ rfl (.tmp 9) (.tmp 11) 50 rfl w.heap.size 9 i0 _ 1 16 Tryz.underlying50 hi hz0 hz1 hz2 rfl (by decide) (.slice none 0 0) 0 [] rfl (HON.out.alloc _) ⟨w.heap.size,0,none⟩ 1 1 [.string s] rfl rfl (cell_one_new _ _ _) (fun u hu=>by rw [List.mem_singleton.1 hu];rfl) (by decide) (by decide) (by simp) ?_;intro v2 w2 ho hgr _;obtain ⟨a2,c2,rfl,hp2,hb2⟩:=HFIN.out w _ w2 v2 (Below.refl _ _) HON.out ho hgr;have HP2:=aA hp2;have HB2:=aA hb2;clear ho hgr hp2 hb2)
  go_ret;exact ⟨_,_,rfl,HP2.out,HB2.out⟩
 |some a0=>
  obtain ⟨g,o,sp⟩:=a0
  have HNW:Hid (∀ j u,(pcs p)[j]? =some u→w.cell? ((⟨g,o,sp⟩:Addr).add j)=some u):=fun j u hj=>by
   rcases hc with e|⟨g',o',q,hs⟩
   · subst e;simp [pcs] at hj
   · cases q
     exact sX hs j u hj
  have HON:=aA (xK w w.heap.size);clear hc;have t1:True:=trivial
  go_enter Tryz.func148,Tryz.ntmps148
  go_wp2_with (first
   |(have _t:=t1;at_builtin;refine wpList_append_own_wide _ rfl (.tmp 6) (.tmp 7) 50 rfl w.heap.size 9 i0 _ 1 16 Tryz.underlying50 hi hz0 hz1 hz2 rfl (by decide) (.slice none 0 0) 0 [] rfl HON.out ⟨g,o,sp⟩ p.length cap (pcs p) rfl (by rw [jB];omega) HNW.out (FB p) (by unfold maxLen;omega) (by rw [Nat.zero_add];omega) (Nat.le_refl _) ?_;intro v1 w1 ho hgr _;have HO1:Hid (w1.ownsRow w.heap.size 9 1 v1 p.length (pcs p)):=(by have e:=ho;rw [Nat.zero_add,List.nil_append] at e;exact e);have HB1:Hid (Below w.heap.size w w1):=(Below.refl _ _).grown hgr (Nat.le_refl _) (fun q hq=>by cases hq);have hs1:=HB1.out.size;obtain ⟨a1,c1,rfl⟩:=SX HO1.out;clear ho hgr t1)
   |(have _t:=HO1;at_builtin;refine wpList_append_own_wide _ rfl (.tmp 9) (.tmp 11) 50 rfl w.heap.size 9 i0 _ 1 16 Tryz.underlying50 hi hz0 hz1 hz2 rfl (by decide) (.slice a1 p.length c1) p.length (pcs p) rfl (HO1.out.alloc _) ⟨w1.heap.size,0,none⟩ 1 1 [.string s] rfl rfl (cell_one_new _ _ _) (fun u hu=>by rw [List.mem_singleton.1 hu];rfl) (by unfold maxLen;omega) (by omega) (by simp;omega) ?_;intro v2 w2 ho hgr _;obtain ⟨a2,c2,rfl,hp2,hb2⟩:=HFIN.out w1 _ w2 v2 HB1.out HO1.out ho hgr;have HP2:=aA hp2;have HB2:=aA hb2;clear ho hgr hp2 hb2))
  go_ret;exact ⟨_,_,rfl,HP2.out,HB2.out⟩
theorem xL {n:Nat} (h:n≤9223372036854775807):IntKind.i64.wrap (n:Int)=n:=by
 simp [IntKind.wrap,IntKind.bits,IntKind.signed];omega
def aI (L:List ByteArray):ByteArray:=⟨(bE L).toArray⟩
theorem cD (L:List ByteArray):(aI L).size=(bE L).length:=by show (bE L).toArray.size=_;simp
theorem oH (L:List ByteArray) (s:ByteArray):aI (L++[s])=aI L++dT++s:=by
 refine bB ?_;rw [ByteArray.toList_eq,ByteArray.toList_eq,cJ,cJ];simp [aI,lB]
set_option maxHeartbeats 3200000 in
theorem MP {L:List ByteArray} {v:Value} {w:World} (h:PathAt w v L) (hz:L.length≤4611686018427387904) (hs:∀ s ∈ L,s.size≤9223372036854775807) (hlen:∀ k,k≤L.length→aT (L.take k)=true→(aI (L.take k)).size≤219902325555200):
 Calls Tryz.prog 30 #[v] w fun e w'=>e= .returned (.string (aG L))∧Below w.heap.size w w':=by
 have HNA:Hid (∀ k (hk:k<L.length) w1,Calls Tryz.prog 82 #[.string L[k]] w1 fun e w'=>e= .returned (.bool (Sc.aH L[k].data.toList))∧w'=w1):=fun k hk w1=>Sc.eJ _ (hs _ (List.getElem_mem hk)) w1
 obtain ⟨ad,cap,rfl,hc,hel⟩:=h.el;have HEL:=aA hel;clear h hs hel
 by_cases h0:L=[]
 · subst h0
   have HR:Hid (aG []=⟨#[47]⟩):=rfl;rw [List.length_nil]
   go_enter Tryz.func30,Tryz.ntmps30
   go_wp2
   go_ret;exact ⟨by rw [HR.out];rfl,Below.refl _ _⟩
 · have hpos:0<L.length:=List.length_pos_iff.2 h0
   have HNO:Hid (aT L=false→aG L=⟨#[]⟩):=fun e=>by unfold aG;rw [if_neg h0,if_neg (by rw [e];simp)]
   have HYE:Hid (aT L=true→aG L=aI L):=fun e=>by unfold aG;rw [if_neg h0,if_pos e];rfl
   have HL:Hid (∀ k,k≤L.length→aT (L.take k)=true→(aI (L.take k)).size≤219902325555200):=hlen;clear hlen;have hne0:((L.length:Int)==0)=false:=by rw [beq_eq_false_iff_ne];omega
   have HT0:Hid (aI (L.take 0)=⟨#[]⟩):=rfl;clear h0
   go_enter Tryz.func30,Tryz.ntmps30
   go_wp2_with fail
   go_loopw [3,4] (fun vo vi wr=>∃ k:Nat,k≤L.length∧vi= .int .i64 k∧vo= .string (aI (L.take k))∧wr=w∧aT (L.take k)=true) (fun _ vi _=>L.length - (intOf vi).toNat)
   case atStart=>exact ⟨0,Nat.zero_le _,rfl,by rw [HT0.out],rfl,rfl⟩
   case round=>
    obtain ⟨k,hk,rfl,rfl,hww,hns⟩:=hrel;subst wr
    by_cases hlt:k<L.length
    · obtain ⟨g,o,rfl,c0,c1⟩:=HEL.out k hlt
      have HLK:=aA (HL.out k hk hns)
      have HTS:Hid (aI (L.take (k+1))=aI (L.take k)++dT++L[k]):=by
       unfold Hid;rw [List.take_succ_eq_append_getElem hlt,oH]
      have HNT:Hid (Sc.aH L[k].data.toList=true→aT (L.take (k+1))=true):=fun e=>by rw [qC hlt,hns,e];rfl
      have HNB:Hid (Sc.aH L[k].data.toList=false→aT L=false):=fun e=>tB hlt e
      have HNM:=aA (HNA.out k hlt);generalize aI (L.take k)=tx at*;generalize L[k]=s at*;clear hns;cases hn:Sc.aH s.data.toList
      · have HR:=aA (HNO.out (HNB.out hn))
        rw [hn] at HNM;clear HNT HNB HNO HYE
        go_wp2_with (go_at_call 82;refine (HNM.out _).mono ?_;rintro e w1 ⟨rfl,hw1⟩;subst w1)
        go_ret;exact ⟨by rw [HR.out];rfl,Below.refl _ _⟩
      · have HR:=aA (HNT.out hn)
        rw [hn] at HNM;have hs16:s.size≤16:=kG hn;have hms:dT.size=9:=rfl;have hlk:=HLK.out;have e1:=fun W:World=>run_string_add_sum (P:=Tryz.prog) (w:=W) tx dT (by omega)
        have e2:=fun W:World=>run_string_add_sum (P:=Tryz.prog) (w:=W) (tx++dT) s (by rw [bQ];omega)
        unfold dT at e1 e2;clear HNT HNB HNO HYE hlk
        go_wp2_with (go_at_call 82;refine (HNM.out _).mono ?_;rintro e w1 ⟨rfl,hw1⟩;subst w1)
        exact ⟨⟨k+1,by omega,by go_num,by rw [HTS.out];rfl,trivial,HR.out⟩,by simp [intOf];omega⟩
    · obtain rfl:k=L.length:=by omega
      rw [List.take_length] at hns ⊢;have HR:Hid (aG L=aI L):=HYE.out hns
      go_wp2
      go_ret;exact ⟨by rw [HR.out];rfl,Below.refl _ _⟩
theorem lF {L:List ByteArray} {v:Value} {w:World} (h:PathAt w v L) (hz:L.length*16≤140737488355328) (hs:∀ s ∈ L,s.size≤9223372036854775807):
 Calls Tryz.prog 30 #[v] w fun e w'=>e= .returned (.string (aG L))∧Below w.heap.size w w':=
 MP h (by omega) hs fun k hk hn=>by
  have:=nK hn
  rw [List.length_take] at this;rw [cD];omega
set_option maxHeartbeats 1600000 in
theorem xM {L:List Dr} {v:Value} {w:World} (h:DirsAt w v L) (hz:L.length≤9223372036854775807) (hf:FitD L) {k:Nat} (hk:k<L.length) (hp:0<L[k].pa.length):
 Calls Tryz.prog 191 #[.agg #[v],.int .i64 k] w fun e w'=>e= .returned (.int .i64 (bA L (L[k].pa.take (L[k].pa.length - 1))))∧Below w.heap.size w w':=by
 have HFD:Hid (∀ w1,Below w.heap.size w w1→∀ vp p,PathAt w1 vp p→Calls Tryz.prog 147 #[.agg #[v],vp] w1 fun e w'=>e= .returned (.int .i64 (bA L p))∧Below w1.heap.size w1 w'):=fun w1 hb vp p hp=>nM (h.below hb) hz hf hp
 have hpz:=hf _ (List.getElem_mem hk);obtain ⟨ad,cap,rfl,hc,hsl⟩:=h.sl;obtain ⟨g,o,rfl,u,v1,v2,v3,⟨c0,c1,c2,c3,c4,c5,c6,c7,c8⟩,⟨hpa,hpk⟩,hg⟩:=hsl k hk;obtain ⟨ua,uc,rfl,huc,hux⟩:=hpa.el;obtain ⟨n,hn⟩:∃ n,L[k].pa.length=n+1:=⟨L[k].pa.length - 1,by omega⟩
 have HC:Hid (∀ w1,Below w.heap.size w w1→Calls Tryz.prog 147 #[.agg #[.slice (some ⟨g,o,none⟩) L.length cap],.slice ua n uc] w1 fun e w'=>e= .returned (.int .i64 (bA L (L[k].pa.take (L[k].pa.length - 1))))∧Below w1.heap.size w1 w'):=fun w1 hb=>by
  refine HFD.out w1 hb _ _ ?_
  have:=(hpa.cut (k:=n) (by omega)).below hb
  rw [show L[k].pa.length - 1=n by omega];exact this
 rw [hn] at c0 huc hpz;have c0':(w.alloc (.cells #[.slice (some ⟨g,o,none⟩) L.length cap] 30)).cell? ⟨g,o+k*9,none⟩=some (.slice ua (n+1) uc):=((aF w (.cells #[.slice (some ⟨g,o,none⟩) L.length cap] 30)).cell (p:=⟨g,o+k*9,none⟩) hg).trans c0;generalize bA L (L[k].pa.take (L[k].pa.length - 1))=f at*;clear c1 c2 c3 c4 c5 c6 c7 c8 hpk hpa h hsl hux hf hn hp;have hki:(k:Int)<(L.length:Int):=by omega
 have hkd:decide ((k:Int)<0)=false:=decide_eq_false (by omega);have hkl:decide (L.length≤k)=false:=decide_eq_false (by omega);have hn1:((n:Int)+1==0)=false:=by rw [beq_eq_false_iff_ne];omega
 have hwn:IntKind.i64.wrap (n:Int)=n:=xL (by omega);have hnc:n≤uc:=by omega
 have HK:Hid (KeepP fun w1=>Below w.heap.size w w1∧BxT w1 w.heap.size (.slice (some ⟨g,o,none⟩) L.length cap)):=(aD w).and (bI _ _);have HO:Hid (Below w.heap.size w (w.alloc (.cells #[.slice (some ⟨g,o,none⟩) L.length cap] 30))∧BxT (w.alloc (.cells #[.slice (some ⟨g,o,none⟩) L.length cap] 30)) w.heap.size (.slice (some ⟨g,o,none⟩) L.length cap)):=⟨aF _ _,BxT.new _ _⟩
 go_enter Tryz.func191,Tryz.ntmps191
 go_wp2_with fail
 refine aM HK (by kernel_rfl) (by kernel_rfl) (by first|exact HO.out|exact HK.out.drew HO.out) ?_;intro C HIN HOUT;clear HO
 repeat
  (with_reducible refine wpQuiet_step (fun K hK=> ?_)
   go_simp
   first
    |(refine hK _ ?_;clear hK K)
    |(apply Exists.intro;refine ⟨fun w1 hC=> ?_,hK _ ?_⟩;(focus ((first|(go_at_call 147;with_reducible exact aW HIN HOUT HK (fun w1 hk=>HC.out w1 hk.1) w1 hC)|(exact rfl)|(obtain ⟨hb1,⟨b0,b1⟩⟩:=HOUT.out w1 hC;clear hC;go_simp;first|done|exact rfl));done));clear hK K))
 refine wpQuiet_nil ?_;intro wn hC;have HO:=aA (HOUT.out _ hC);clear hC HIN HOUT C;obtain ⟨hb1,⟨b0,b1⟩⟩:=HO.out
 go_wp2
 go_ret;exact ⟨rfl,HO.out.1⟩
end Go.Proofs.YtlmpiohbmlddiaaGreatDoor
namespace Go.Proofs.YtlmpiohbmlddiaaGreatDoor.Sc
open Go.RowKit
set_option maxRecDepth 100000
def VG:Except Nat (List (List Bs))→Int
 | .ok _=>0
 | .error _=>22
def VH:Except Nat (List (List Bs))→List (List Bs)
 | .ok L=>L
 | .error _=>[]
theorem IZ (s:ByteArray) (hs:s.size≤281474976710656) (w:World):Calls Tryz.prog 109 #[.string s] w fun e w'=>e= .returned (.string s)∧Below w.heap.size w w':=by
 have HC:=aA (Tryz.stringslite_Clone s w hs)
 go_enter Tryz.func109,Tryz.ntmps109
 go_wp2_with (go_at_call 155;refine HC.out.mono ?_;rintro e w1 ⟨rfl,hb⟩;have HB:=aA hb;clear hb)
 go_ret;exact ⟨rfl,HB.out⟩
def BS (t:ByteArray) (most:Int):Int:=if most<(t.size:Int) then 25 else VG (lT t.data.toList [] [] [])
def lG (t:ByteArray) (most:Int):List (List Bs):=if most<(t.size:Int) then [] else VH (lT t.data.toList [] [] [])
end Go.Proofs.YtlmpiohbmlddiaaGreatDoor.Sc
namespace Go.Proofs.YtlmpiohbmlddiaaGreatDoor
open Go.RowKit
set_option maxRecDepth 100000
def fT:List UInt8:=dT.data.toList
theorem xN:fT.length=9:=rfl
def bG (r:List UInt8):List UInt8:=r.takeWhile fun b=>b != 47
theorem qK (r:List UInt8):r.take (bG r).length=bG r:=(List.prefix_iff_eq_take.1 (List.takeWhile_prefix _)).symm
theorem JA {a r:List UInt8} (h:(47:UInt8) ∉ a) (hr:r=[]∨∃ t,r=47::t):bG (a++r)=a:=by
 unfold bG;rw [List.takeWhile_append_of_pos (fun x hx=>by rw [bne_iff_ne];exact fun e=>h (e ▸ hx))]
 rcases hr with rfl|⟨t,rfl⟩<;>simp
def eF (r:List UInt8):Option (List ByteArray):=
 if r=[] then some []
 else if fT.isPrefixOf r=true∧Sc.aH (bG (r.drop 9))=true then (eF ((r.drop 9).drop (bG (r.drop 9)).length)).map fun L=>Sc.ba (bG (r.drop 9))::L
 else none
termination_by r.length
decreasing_by
 have:0<r.length:=List.length_pos_iff.2 ‹_›
 simp only [List.length_drop];omega
theorem nN:eF []=some []:=by rw [eF];simp
theorem qL {r:List UInt8} (h0:r≠[]) (h:¬ (fT.isPrefixOf r=true∧Sc.aH (bG (r.drop 9))=true)):eF r=none:=by rw [eF,if_neg h0,if_neg h]
theorem qM {r:List UInt8} (h0:r≠[]) (h1:fT.isPrefixOf r=true) (h2:Sc.aH (bG (r.drop 9))=true):eF r=(eF ((r.drop 9).drop (bG (r.drop 9)).length)).map fun L=>Sc.ba (bG (r.drop 9))::L:=by rw [eF,if_neg h0,if_pos ⟨h1,h2⟩]
def cH (t:List UInt8):Option (List ByteArray):=if t=[47] then some [] else if t=[] then none else eF t
theorem qN {s:List UInt8} (h:Sc.aH s=true):(47:UInt8) ∉ s:=fun q=>by
 unfold Sc.aH at h;rw [Bool.and_eq_true,Bool.and_eq_true,List.all_eq_true] at h;exact absurd (h.1.2 _ q) (by decide)
theorem tI {s:List UInt8} (h:Sc.aH s=true):0<s.length:=by
 cases s with
 |nil=>cases h
 |cons _ _=>simp
theorem xO:∀ l:List UInt8,(Lib.indexByte l 47= -1∧bG l=l)∨(Lib.indexByte l 47=((bG l).length:Int)∧(bG l).length<l.length)
 |[]=>Or.inl ⟨rfl,rfl⟩
 |b::l=>by
  by_cases hb:b=47
  · subst hb
    exact Or.inr ⟨rfl,by simp [bG]⟩
  · have e:bG (b::l)=b::bG l:=by unfold bG;rw [List.takeWhile_cons_of_pos (by simpa using hb)]
    have hb2:(b==47)=false:=by simpa using hb
    unfold Lib.indexByte;rw [e,hb2]
    rcases xO l with ⟨h1,h2⟩|⟨h1,h2⟩
    · exact Or.inl ⟨by rw [h1];rfl,by rw [h2]⟩
    · refine Or.inr ⟨?_,by simpa using h2⟩
      have:(Lib.indexByte l 47== -1)=false:=by rw [h1,beq_eq_false_iff_ne];omega
      rw [this,h1]
      simp
set_option maxHeartbeats 1600000 in
theorem MQ (s:ByteArray) (hsz:s.size≤9223372036854775807) (w:World):Calls Tryz.prog 196 #[.string s,.string ⟨#[47]⟩] w fun e w'=>∃ x y,e= .returned (.tuple #[.string (Sc.ba (bG s.data.toList)),.string x,.bool y])∧Below w.heap.size w w':=by
 have HI:=aA (Tryz.stringslite_Index_one s 47 w)
 rcases xO s.data.toList with ⟨e1,e2⟩|⟨e1,e2⟩
 · have HS:Hid (Sc.ba (bG s.data.toList)=s):=by unfold Hid;rw [e2];rfl
   rw [e1] at HI;clear e1 e2;rw [HS.out]
   go_enter Tryz.func196,Tryz.ntmps196
   go_wp2_with (go_at_call 238;refine HI.out.mono ?_;rintro e w1 ⟨rfl,rfl⟩)
   go_ret3;exact ⟨_,_,rfl,Below.refl _ _⟩
 · rw [e1] at HI
   have HS:Hid (s.extract 0 (bG s.data.toList).length=Sc.ba (bG s.data.toList)):=by unfold Hid;rw [Sc.kW,List.drop_zero,qK]
   rw [aK] at e2;rw [←HS.out];clear e1 HS;generalize (bG s.data.toList).length=i at*;have c1:(0:Int)≤ ↑i:=by omega
   have c2:(↑i:Int)≤ ↑s.size:=by omega
   have c3:(0:Int)≤ ↑i+1:=by omega
   have c4:(↑i+1:Int)≤ ↑s.size:=by omega
   have hw:IntKind.i64.wrap ((i:Int)+1)=(i:Int)+1:=by simpa using xL (n:=i+1) (by omega)
   have c5:i≤s.size:=by omega
   have c6:i+1≤s.size:=by omega
   have HK:Hid (KeepP fun w1=>Below w.heap.size w w1):=aD w;have HO:Hid (Below w.heap.size w w):=Below.refl _ _
   go_enter Tryz.func196,Tryz.ntmps196
   go_wp2_with (go_at_call 238;refine HI.out.mono ?_;rintro e w1 ⟨rfl,rfl⟩)
   refine aM HK (by kernel_rfl) (by kernel_rfl) (by first|exact HO.out|exact HK.out.drew HO.out) ?_;intro C HIN HOUT;clear HO
   repeat
    (with_reducible refine wpQuiet_step (fun K hK=> ?_)
     go_simp
     first
      |(refine hK _ ?_;clear hK K)
      |(apply Exists.intro;refine ⟨fun w1 hC=> ?_,hK _ ?_⟩;(focus ((first|(exact rfl)|(obtain hb1:=HOUT.out w1 hC;clear hC;go_simp;first|done|exact rfl));done));clear hK K))
   refine wpQuiet_nil ?_;intro wn hC;have HO:=aA (HOUT.out _ hC);clear hC HIN HOUT C;obtain hb1:=HO.out
   go_wp2
   go_ret3;exact ⟨_,_,rfl,HO.out⟩
theorem FG (s:ByteArray) (hsz:s.size≤9223372036854775807) (w:World):Calls Tryz.prog 154 #[.string s,.string ⟨#[47]⟩] w fun e w'=>∃ x y,e= .returned (.tuple #[.string (Sc.ba (bG s.data.toList)),.string x,.bool y])∧Below w.heap.size w w':=by
 have HC:=aA (MQ s hsz w)
 go_enter Tryz.func154,Tryz.ntmps154
 go_wp2_with (go_at_call 196;refine HC.out.mono ?_;rintro e w1 ⟨x,y,rfl,ok⟩;have HB:=aA ok;clear ok)
 go_ret3;exact ⟨_,_,rfl,HB.out⟩
set_option maxHeartbeats 1600000 in
theorem JB (r:ByteArray) (hsz:r.size≤9223372036854775807) (hp:fT.isPrefixOf r.data.toList=true) (w:World):Calls Tryz.prog 108 #[.string r] w fun e w'=>e= .returned (.tuple #[.string (Sc.ba (bG (r.data.toList.drop 9))),.bool (Sc.aH (bG (r.data.toList.drop 9)))])∧Below w.heap.size w w':=by
 have HP:Hid (∀ w1,Calls Tryz.prog 153 #[.string r,.string ⟨#[47,109,111,100,117,108,101,115,47]⟩] w1 fun e w'=>e= .returned (.tuple #[.string ⟨(r.data.toList.drop 9).toArray⟩,.bool true])∧w'=w1):=fun w1=>by
  have h:=Tryz.strings_CutPrefix r ⟨#[47,109,111,100,117,108,101,115,47]⟩ w1;have e1:Lib.hasPrefix r.data.toList ([47,109,111,100,117,108,101,115,47]:List UInt8)=true:=hp;have e2:Lib.trimPrefix r.data.toList ([47,109,111,100,117,108,101,115,47]:List UInt8)=r.data.toList.drop 9:=by unfold Lib.trimPrefix;rw [if_pos e1];rfl
  simp only [e1,e2] at h;exact h
 have HC:Hid (∀ w1,Calls Tryz.prog 154 #[.string ⟨(r.data.toList.drop 9).toArray⟩,.string ⟨#[47]⟩] w1 fun e w'=>∃ x y,e= .returned (.tuple #[.string (Sc.ba (bG (r.data.toList.drop 9))),.string x,.bool y])∧Below w1.heap.size w1 w'):=fun w1=>by
  have h:=FG ⟨(r.data.toList.drop 9).toArray⟩ (by show (r.data.toList.drop 9).toArray.size≤_;simp only [List.size_toArray,List.length_drop,aK];omega) w1
  simpa using h
 have HN:Hid (∀ w1,Calls Tryz.prog 53 #[.string (Sc.ba (bG (r.data.toList.drop 9)))] w1 fun e w'=>e= .returned (.bool (Sc.aH (bG (r.data.toList.drop 9))))∧w'=w1):=fun w1=>by
  have h:=Sc.fI (Sc.ba (bG (r.data.toList.drop 9))) w1;rw [Sc.dQ] at h;exact h
 generalize Sc.aH (bG (r.data.toList.drop 9))=b at*;generalize Sc.ba (bG (r.data.toList.drop 9))=n at*;generalize (⟨(r.data.toList.drop 9).toArray⟩:ByteArray)=q at*;clear hp
 go_enter Tryz.func108,Tryz.ntmps108
 go_wp2_with (first
  |(go_at_call 153;refine (HP.out _).mono ?_;rintro e w1 ⟨rfl,rfl⟩)
  |(go_at_call 154;refine (HC.out _).mono ?_;rintro e w2 ⟨x,y,rfl,ok⟩;have HB:=aA ok;clear ok)
  |(go_at_call 53;refine (HN.out _).mono ?_;rintro e w3 ⟨rfl,rfl⟩))
 all_goals go_ret2
 all_goals exact ⟨by cases b<;>rfl,HB.out⟩
set_option maxHeartbeats 1600000 in
theorem MR (r:ByteArray) (hsz:r.size≤9223372036854775807) (hp:fT.isPrefixOf r.data.toList=false) (w:World):Calls Tryz.prog 108 #[.string r] w fun e w'=>∃ x,e= .returned (.tuple #[.string x,.bool false])∧Below w.heap.size w w':=by
 have HP:Hid (∀ w1,Calls Tryz.prog 153 #[.string r,.string ⟨#[47,109,111,100,117,108,101,115,47]⟩] w1 fun e w'=>e= .returned (.tuple #[.string r,.bool false])∧w'=w1):=fun w1=>by
  have h:=Tryz.strings_CutPrefix r ⟨#[47,109,111,100,117,108,101,115,47]⟩ w1;have e1:Lib.hasPrefix r.data.toList ([47,109,111,100,117,108,101,115,47]:List UInt8)=false:=hp;have e2:Lib.trimPrefix r.data.toList ([47,109,111,100,117,108,101,115,47]:List UInt8)=r.data.toList:=by unfold Lib.trimPrefix;rw [if_neg (by rw [e1];simp)]
  simp only [e1,e2] at h;exact h
 have HC:Hid (∀ w1,Calls Tryz.prog 154 #[.string r,.string ⟨#[47]⟩] w1 fun e w'=>∃ x y,e= .returned (.tuple #[.string (Sc.ba (bG r.data.toList)),.string x,.bool y])∧Below w1.heap.size w1 w'):=fun w1=>FG r hsz w1
 generalize Sc.ba (bG r.data.toList)=n at*;clear hp
 go_enter Tryz.func108,Tryz.ntmps108
 go_wp2_with (first
  |(go_at_call 153;refine (HP.out _).mono ?_;rintro e w1 ⟨rfl,rfl⟩)
  |(go_at_call 154;refine (HC.out _).mono ?_;rintro e w2 ⟨x,y,rfl,ok⟩;have HB:=aA ok;clear ok))
 all_goals go_ret2
 all_goals exact ⟨_,rfl,HB.out⟩
def QL (t:List UInt8):Prop:=∀ L r,aT L=true→bE L++r=t→L.length≤14073748835124
theorem BU {L:List ByteArray} {n:List UInt8} (h:aT L=true) (hn:Sc.aH n=true):aT (L++[Sc.ba n])=true:=by
 unfold aT at*;rw [List.all_append,h];simp only [List.all_cons,List.all_nil,Bool.and_true,Bool.true_and];rw [Sc.dQ];exact hn
theorem JC (A B:List ByteArray):bE (A++B)=bE A++bE B:=by simp [bE]
theorem SY {r:List UInt8} (h:fT.isPrefixOf r=true):r=fT++r.drop 9:=by
 rw [List.isPrefixOf_iff_prefix,List.prefix_iff_eq_append] at h;exact h.symm
theorem qO {r:List UInt8} (h:fT.isPrefixOf r=true):r=fT++bG (r.drop 9)++(r.drop 9).drop (bG (r.drop 9)).length:=by
 have h1:(r.drop 9).take (bG (r.drop 9)).length++(r.drop 9).drop (bG (r.drop 9)).length=r.drop 9:=List.take_append_drop _ _;rw [qK] at h1;rw [List.append_assoc,h1];exact SY h
theorem xP {o:Option (List ByteArray)} (A:List ByteArray) (n:ByteArray):(o.map fun L=>n::L).map (fun L=>A++L)=o.map fun L=>(A++[n])++L:=by
 cases o<;>simp
theorem MT {r:ByteArray} (h:fT.isPrefixOf r.data.toList=true):9+(bG (r.data.toList.drop 9)).length≤r.size:=by
 have h1:=congrArg List.length (qO h);rw [List.length_append,List.length_append,xN,aK] at h1;omega
set_option maxHeartbeats 3200000 in
theorem xQ (t:ByteArray) (ht:t.size≤9223372036854775807) (hf:QL t.data.toList) (h0:t.data.toList≠[47]) (w:World):
 Calls Tryz.prog 58 #[.string t] w fun e w'=>∃ v,e= .returned (.tuple #[v,.bool (cH t.data.toList).isSome])∧OwnPa w' w.heap.size v ((cH t.data.toList).getD [])∧Below w.heap.size w w':=by
 have HV:Hid (cH t.data.toList=if t.data.toList=[] then none else eF t.data.toList):=by unfold Hid cH;rw [if_neg h0]
 have HF:=aA hf;have HFY:Hid (∀ (r:ByteArray),r.size≤t.size→fT.isPrefixOf r.data.toList=true→∀ w1,Calls Tryz.prog 108 #[.string r] w1 fun e w'=>e= .returned (.tuple #[.string (Sc.ba (bG (r.data.toList.drop 9))),.bool (Sc.aH (bG (r.data.toList.drop 9)))])∧Below w1.heap.size w1 w'):=fun r hz hp w1=>JB r (by omega) hp w1
 have HFN:Hid (∀ (r:ByteArray),r.size≤t.size→fT.isPrefixOf r.data.toList=false→∀ w1,Calls Tryz.prog 108 #[.string r] w1 fun e w'=>∃ x,e= .returned (.tuple #[.string x,.bool false])∧Below w1.heap.size w1 w'):=fun r hz hp w1=>MR r (by omega) hp w1
 have HCL:Hid (∀ (s:ByteArray),s.size≤281474976710656→∀ w1,Calls Tryz.prog 109 #[.string s] w1 fun e w'=>e= .returned (.string s)∧Below w1.heap.size w1 w'):=fun s hs w1=>Sc.IZ s hs w1
 have HON:Hid (OwnPa w w.heap.size (.slice none 0 0) []):=⟨rfl,Or.inl ⟨rfl,rfl⟩⟩;obtain ⟨i0,hi,hz0,hz1,hz2⟩:=Sc.bW Sc.kB;have hq0:(t.toList==[47])=false:=by rw [beq_eq_false_iff_ne,ByteArray.toList_eq];exact h0
 clear hf h0
 go_enter Tryz.func58,Tryz.ntmps58
 go_wp2_with fail
 go_loopw [4,5] (fun vp vr wr=>∃ (L:List ByteArray) (r:ByteArray),vr= .string r∧aT L=true∧bE L++r.data.toList=t.data.toList∧eF t.data.toList=(eF r.data.toList).map (fun M=>L++M)∧OwnPa wr w.heap.size vp L∧Below w.heap.size w wr) (fun _ vr _=>match vr with| .string r=>r.size|_=>0)
 case atStart=>exact ⟨[],t,rfl,rfl,rfl,by simp,HON.out,Below.refl _ _⟩
 case round=>
  obtain ⟨L,r,rfl,hns,htx,hpt,hown,hb⟩:=hrel;have HN:=aA hns;have HT:=aA htx;have HP:=aA hpt;have HO:=aA hown;have HB:=aA hb;have HLN:=aA (HF.out L _ hns htx);obtain ⟨pa,pc,rfl,hpc⟩:=hown.form;clear hns htx hpt hown hb
  have hrt:r.size≤t.size:=by
   have e:=congrArg List.length HT.out;rw [List.length_append,aK,aK] at e;omega
  by_cases hr:r.data.toList=[]
  · have hre:(r.toList==[])=true:=by rw [ByteArray.toList_eq,hr];rfl
    have HPE:Hid (eF t.data.toList=some L):=by unfold Hid;rw [HP.out,hr,nN];simp
    have HLL:Hid (bE L=t.data.toList):=by have e:=HT.out;rw [hr,List.append_nil] at e;exact e
    cases L with
    |nil=>
     have HR:Hid (cH t.data.toList=none):=by unfold Hid;rw [HV.out,if_pos (by rw [←HLL.out];rfl)]
     rw [List.length_nil];have hrs:r.toList=[]:=by rw [ByteArray.toList_eq,hr]
     clear hre
     go_wp2
     go_ret2;exact ⟨_,by rw [HR.out];rfl,by rw [HR.out];exact HO.out,HB.out⟩
    |cons n L=>
     have HR:Hid (cH t.data.toList=some (n::L)):=by unfold Hid;rw [HV.out,if_neg (by rw [←HLL.out];simp [bE,dT]),HPE.out]
     have hp:(0:Int)<(((n::L).length:Nat):Int):=by rw [List.length_cons];omega
     have hrs:r.toList=[]:=by rw [ByteArray.toList_eq,hr]
     clear hre
     go_wp2
     go_ret2;exact ⟨_,by rw [HR.out];rfl,by rw [HR.out];exact HO.out,HB.out⟩
  · have hre:(r.toList==[])=false:=by rw [beq_eq_false_iff_ne,ByteArray.toList_eq];exact hr
    have hrn:r.toList≠[]:=by rw [ByteArray.toList_eq];exact hr
    have hre2:r.toList.isEmpty=false:=by rw [ByteArray.toList_eq];cases e:r.data.toList with|nil=>exact absurd e hr|cons _ _=>rfl
    have HNE:Hid (t.data.toList≠[]):=fun e=>by
     have q:=HT.out;rw [e] at q;exact hr (List.append_eq_nil_iff.1 q).2
    cases hp:fT.isPrefixOf r.data.toList
    · have HR:Hid (cH t.data.toList=none):=by unfold Hid;rw [HV.out,if_neg HNE.out,HP.out,qL hr (by rw [hp];simp)];rfl
      have HC:=aA (HFN.out r hrt hp);clear hp hr
      go_wp2_with (go_at_call 108;refine (HC.out _).mono ?_;rintro e w1 ⟨x,rfl,ok⟩;have HB1:=aA (aB HB.out ok);clear ok)
      go_ret2;exact ⟨_,by rw [HR.out];rfl,by rw [HR.out];exact ⟨rfl,Or.inl ⟨rfl,rfl⟩⟩,HB1.out⟩
    · have HC:=aA (HFY.out r hrt hp)
      cases hn:Sc.aH (bG (r.data.toList.drop 9))
      · have HR:Hid (cH t.data.toList=none):=by unfold Hid;rw [HV.out,if_neg HNE.out,HP.out,qL hr (by rw [hn];simp)];rfl
        rw [hn] at HC;generalize Sc.ba (bG (r.data.toList.drop 9))=nm at*;clear hp hr hn
        go_wp2_with (go_at_call 108;refine (HC.out _).mono ?_;rintro e w1 ⟨rfl,ok⟩;have HB1:=aA (aB HB.out ok);clear ok)
        go_ret2;exact ⟨_,by rw [HR.out];rfl,by rw [HR.out];exact ⟨rfl,Or.inl ⟨rfl,rfl⟩⟩,HB1.out⟩
      · rw [hn] at HC
        have hsz:=MT hp;have HNN:Hid (aT (L++[Sc.ba (bG (r.data.toList.drop 9))])=true):=BU HN.out hn
        have HRL:Hid ((r.extract (9+(bG (r.data.toList.drop 9)).length) r.size).data.toList=(r.data.toList.drop 9).drop (bG (r.data.toList.drop 9)).length):=by
         unfold Hid;rw [Sc.kW,Sc.dQ,←aK,List.take_length,List.drop_drop]
        have HTN:Hid (bE (L++[Sc.ba (bG (r.data.toList.drop 9))])++(r.extract (9+(bG (r.data.toList.drop 9)).length) r.size).data.toList=t.data.toList):=by
         unfold Hid;rw [lB,HRL.out,Sc.dQ,List.append_assoc,List.append_assoc,←HT.out]
         congr 1
         rw [←List.append_assoc];exact (qO hp).symm
        have HPN:Hid (eF t.data.toList=(eF (r.extract (9+(bG (r.data.toList.drop 9)).length) r.size).data.toList).map (fun M=>(L++[Sc.ba (bG (r.data.toList.drop 9))])++M)):=by
         unfold Hid;rw [HP.out,HRL.out,qM hr hp hn,xP]
        have hns:(Sc.ba (bG (r.data.toList.drop 9))).size=(bG (r.data.toList.drop 9)).length:=by show (bG (r.data.toList.drop 9)).toArray.size=_;simp
        have hnb:(Sc.ba (bG (r.data.toList.drop 9))).size≤16:=kG (by rw [Sc.dQ];exact hn);have hnp:0<(bG (r.data.toList.drop 9)).length:=tI hn;have HLM:=aA (HF.out _ _ HNN.out HTN.out);generalize (bG (r.data.toList.drop 9)).length=m at*;generalize Sc.ba (bG (r.data.toList.drop 9))=nm at*;have hll:L.length+1≤14073748835124:=by have e:=HLM.out;rw [List.length_append] at e;exact e
        have HCN:=aA (HCL.out nm (by omega));subst m;clear hp hr hn
        go_wp2_with (first
         |(go_at_call 108;refine (HC.out _).mono ?_;rintro e w1 ⟨rfl,ok⟩;have HO1:=aA (HO.out.below ok);have HB1:=aA (aB HB.out ok);clear ok)
         |(go_at_call 109;refine (HCN.out _).mono ?_;rintro e w2 ⟨rfl,ok⟩;have HO2:=aA (HO1.out.below ok);have HB2:=aA (aB HB1.out ok);clear ok)
         |(have _h:=HO2;at_builtin;refine wpList_append_own_wide _ rfl _ _ 50 rfl w.heap.size 9 i0 _ 1 16 Tryz.underlying50 hi hz0 hz1 hz2 rfl (by decide) _ _ _ rfl (HO2.out.alloc _) ⟨w2.heap.size,0,none⟩ 1 1 [.string nm] rfl rfl (cell_one_new _ _ _) (by simp [Value.oneCell']) (by unfold maxLen;omega) (by omega) (by have:=HB2.out.size;simp;omega) ?_;intro v3 w3 ho3 hg3 _;have HO3:Hid (OwnPa w3 w.heap.size v3 (L++[nm])):=(by have e:=ho3;unfold Hid OwnPa pcs;rw [List.map_append,List.length_append];exact e);have HB3:Hid (Below w.heap.size w w3):=(HB2.out.alloc (by have:=HB2.out.size;omega) _).grown hg3 (by have:=HB2.out.size;simp;omega) (fun k hk=>(World.ownsRow.lt HO2.out k hk).1);clear ho3 hg3))
        exact ⟨⟨L++[nm],_,rfl,HNN.out,HTN.out,HPN.out,HO3.out,HB3.out⟩,by simp;omega⟩
theorem BV (t:ByteArray) (ht:t.size≤9223372036854775807) (hf:QL t.data.toList) (w:World):
 Calls Tryz.prog 58 #[.string t] w fun e w'=>∃ v,e= .returned (.tuple #[v,.bool (cH t.data.toList).isSome])∧OwnPa w' w.heap.size v ((cH t.data.toList).getD [])∧Below w.heap.size w w':=by
 by_cases h0:t.data.toList=[47]
 · obtain rfl:t=⟨#[47]⟩:=bB (by rw [ByteArray.toList_eq,ByteArray.toList_eq,h0])
   have HR:Hid (cH (⟨#[47]⟩:ByteArray).data.toList=some []):=rfl;rw [HR.out];clear hf ht h0
   go_enter Tryz.func58,Tryz.ntmps58
   go_wp2
   go_ret2;exact ⟨_,rfl,⟨rfl,Or.inl ⟨rfl,rfl⟩⟩,Below.refl _ _⟩
 · exact xQ t ht hf h0 w
theorem jD {s:ByteArray} {L:List ByteArray}:aT (s::L)=true↔Sc.aH s.data.toList=true∧aT L=true:=by
 unfold aT;rw [List.all_cons,Bool.and_eq_true]
theorem cY (s:ByteArray) (L:List ByteArray):bE (s::L)=fT++(s.data.toList++bE L):=by
 unfold bE fT;rw [List.flatMap_cons,List.append_assoc]
theorem BW (L:List ByteArray):bE L=[]∨∃ t,bE L=47::t:=by
 cases L with
 |nil=>exact Or.inl rfl
 |cons s L=>exact Or.inr ⟨_,cY s L⟩
theorem QM (r:List UInt8):fT.isPrefixOf (fT++r)=true:=by rw [List.isPrefixOf_iff_prefix];exact List.prefix_append _ _
theorem xR (r:List UInt8):(fT++r).drop 9=r:=List.drop_left (l₁:=fT)
theorem oI:∀ {L:List ByteArray},aT L=true→eF (bE L)=some L
 |[],_=>nN
 |s::L,h=>by
  obtain ⟨h1,h2⟩:=jD.1 h;have hh:bG (s.data.toList++bE L)=s.data.toList:=JA (qN h1) (BW L);have e:=qM (r:=bE (s::L)) (by rw [cY];simp [fT,dT]) (by rw [cY];exact QM _) (by rw [cY,xR,hh];exact h1);rw [e,cY,xR,hh,List.drop_left,oI h2];rfl
theorem oJ:∀ (n:Nat) {r:List UInt8} {L:List ByteArray},r.length≤n→eF r=some L→bE L=r∧aT L=true
 |n,[],L,_,h=>by
  rw [nN] at h;cases h;exact ⟨rfl,rfl⟩
 |0,_::_,_,hn,_=>by simp at hn
 |n+1,b::r,L,hn,h=>by
  by_cases hq:fT.isPrefixOf (b::r)=true∧Sc.aH (bG ((b::r).drop 9))=true
  · rw [qM (by simp) hq.1 hq.2] at h
    cases hp:eF (((b::r).drop 9).drop (bG ((b::r).drop 9)).length) with
    |none=>rw [hp] at h;cases h
    |some M=>
     rw [hp] at h;cases h;have ih:=oJ n (by simp only [List.length_drop,List.length_cons] at hn ⊢;omega) hp;refine ⟨?_,jD.2 ⟨by rw [Sc.dQ];exact hq.2,ih.2⟩⟩;rw [cY,ih.1,Sc.dQ,←List.append_assoc];exact (qO hq.1).symm
  · rw [qL (by simp) hq] at h
    cases h
theorem jE {L:List ByteArray} (h:L=[]∨aT L=true):cH (aG L).data.toList=some L:=by
 rcases Classical.em (L=[]) with rfl|h0
 · rfl
 · have hn:aT L=true:=h.resolve_left h0
   have e:(aG L).data.toList=bE L:=by unfold aG;rw [if_neg h0,if_pos hn]
   rw [e];cases L with
   |nil=>exact absurd rfl h0
   |cons s L=>
    unfold cH;rw [if_neg (by rw [cY];simp [fT,dT]),if_neg (by rw [cY];simp [fT,dT])];exact oI hn
theorem BX {t:ByteArray} {L:List ByteArray} (h:cH t.data.toList=some L):aG L=t:=by
 unfold cH at h
 by_cases h1:t.data.toList=[47]
 · rw [if_pos h1] at h
   cases h;exact bB (by rw [ByteArray.toList_eq,ByteArray.toList_eq,h1];rfl)
 · rw [if_neg h1] at h
   by_cases h2:t.data.toList=[]
   · rw [if_pos h2] at h
     cases h
   · rw [if_neg h2] at h
     obtain ⟨e1,e2⟩:=oJ _ (Nat.le_refl _) h;have h0:L≠[]:=fun e=>h2 (by rw [←e1,e];rfl)
     unfold aG;rw [if_neg h0,if_pos e2];exact bB (by rw [ByteArray.toList_eq,ByteArray.toList_eq,←e1])
theorem jS:∀ {L:List ByteArray},aT L=true→10*L.length≤(bE L).length
 |[],_=>by simp
 |s::L,h=>by
  obtain ⟨h1,h2⟩:=jD.1 h
  have:=jS h2
  have:=tI h1
  rw [cY,List.length_append,List.length_append,xN,List.length_cons];omega
theorem fK:∀ {L:List ByteArray},aT L=true→(bE L).count 47=2*L.length
 |[],_=>by simp [bE]
 |s::L,h=>by
  obtain ⟨h1,h2⟩:=jD.1 h;have e1:fT.count 47=2:=by decide
  have e2:s.data.toList.count 47=0:=List.count_eq_zero.2 (qN h1);rw [cY,List.count_append,List.count_append,e1,e2,fK h2,List.length_cons];omega
theorem qP (L:List ByteArray) (k:Nat):(bE (L.take k)).length≤(bE L).length:=by
 have e:bE L=bE (L.take k)++bE (L.drop k):=by rw [←JC,List.take_append_drop]
 rw [e,List.length_append];omega
end Go.Proofs.YtlmpiohbmlddiaaGreatDoor
