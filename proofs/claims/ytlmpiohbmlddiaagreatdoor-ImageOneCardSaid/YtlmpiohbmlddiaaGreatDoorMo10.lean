/- Ta1, Ta2, Td1, Rk1, Env1, RowS, RwD, RwP: their declarations that are needed, laid in one text, remarks and blanks left out. -/
import Derived.Test.YtlmpiohbmlddiaaGreatDoorShelfO
import Derived.Test.YtlmpiohbmlddiaaGreatDoorMo09
namespace Go.Proofs.YtlmpiohbmlddiaaGreatDoor
open Go.RowKit
set_option maxRecDepth 100000
def fG:List UInt8:=eD.data.toList
theorem yF:fG.length=9:=rfl
def aX (r:List UInt8):List UInt8:=r.takeWhile fun b=>b != 47
theorem qM (r:List UInt8):r.take (aX r).length=aX r:=(List.prefix_iff_eq_take.1 (List.takeWhile_prefix _)).symm
theorem JA {a r:List UInt8} (h:(47:UInt8) ∉ a) (hr:r=[]∨∃ t,r=47::t):aX (a++r)=a:=by
 unfold aX;rw [List.takeWhile_append_of_pos (fun x hx=>by rw [bne_iff_ne];exact fun e=>h (e ▸ hx))]
 rcases hr with rfl|⟨t,rfl⟩<;>simp
def dW (r:List UInt8):Option (List ByteArray):=
 if r=[] then some []
 else if fG.isPrefixOf r=true∧Sc.aK (aX (r.drop 9))=true then (dW ((r.drop 9).drop (aX (r.drop 9)).length)).map fun L=>Sc.ba (aX (r.drop 9))::L
 else none
termination_by r.length
decreasing_by
 have:0<r.length:=List.length_pos_iff.2 ‹_›
 simp only [List.length_drop];omega
theorem nK:dW []=some []:=by rw [dW];simp
theorem qN {r:List UInt8} (h0:r≠[]) (h:¬ (fG.isPrefixOf r=true∧Sc.aK (aX (r.drop 9))=true)):dW r=none:=by rw [dW,if_neg h0,if_neg h]
theorem qO {r:List UInt8} (h0:r≠[]) (h1:fG.isPrefixOf r=true) (h2:Sc.aK (aX (r.drop 9))=true):dW r=(dW ((r.drop 9).drop (aX (r.drop 9)).length)).map fun L=>Sc.ba (aX (r.drop 9))::L:=by rw [dW,if_neg h0,if_pos ⟨h1,h2⟩]
def bY (t:List UInt8):Option (List ByteArray):=if t=[47] then some [] else if t=[] then none else dW t
theorem qP {s:List UInt8} (h:Sc.aK s=true):(47:UInt8) ∉ s:=fun q=>by
 unfold Sc.aK at h;rw [Bool.and_eq_true,Bool.and_eq_true,List.all_eq_true] at h;exact absurd (h.1.2 _ q) (by decide)
theorem tW {s:List UInt8} (h:Sc.aK s=true):0<s.length:=by
 cases s with
 |nil=>cases h
 |cons _ _=>simp
theorem yG:∀ l:List UInt8,(Lib.indexByte l 47= -1∧aX l=l)∨(Lib.indexByte l 47=((aX l).length:Int)∧(aX l).length<l.length)
 |[]=>Or.inl ⟨rfl,rfl⟩
 |b::l=>by
  by_cases hb:b=47
  · subst hb
    exact Or.inr ⟨rfl,by simp [aX]⟩
  · have e:aX (b::l)=b::aX l:=by unfold aX;rw [List.takeWhile_cons_of_pos (by simpa using hb)]
    have hb2:(b==47)=false:=by simpa using hb
    unfold Lib.indexByte;rw [e,hb2]
    rcases yG l with ⟨h1,h2⟩|⟨h1,h2⟩
    · exact Or.inl ⟨by rw [h1];rfl,by rw [h2]⟩
    · refine Or.inr ⟨?_,by simpa using h2⟩
      have:(Lib.indexByte l 47== -1)=false:=by rw [h1,beq_eq_false_iff_ne];omega
      rw [this,h1]
      simp
set_option maxHeartbeats 1600000 in
theorem ML (s:ByteArray) (hsz:s.size≤9223372036854775807) (w:World):Calls Tryz.prog 196 #[.string s,.string ⟨#[47]⟩] w fun e w'=>∃ x y,e= .returned (.tuple #[.string (Sc.ba (aX s.data.toList)),.string x,.bool y])∧Below w.heap.size w w':=by
 have HI:=aB (Tryz.stringslite_Index_one s 47 w)
 rcases yG s.data.toList with ⟨e1,e2⟩|⟨e1,e2⟩
 · have HS:Hid (Sc.ba (aX s.data.toList)=s):=by unfold Hid;rw [e2];rfl
   rw [e1] at HI;clear e1 e2;rw [HS.out]
   go_enter Tryz.func196,Tryz.ntmps196
   go_wp2_with (go_at_call 238;refine HI.out.mono ?_;rintro e w1 ⟨rfl,rfl⟩)
   go_ret3;exact ⟨_,_,rfl,Below.refl _ _⟩
 · rw [e1] at HI
   have HS:Hid (s.extract 0 (aX s.data.toList).length=Sc.ba (aX s.data.toList)):=by unfold Hid;rw [Sc.kT,List.drop_zero,qM]
   rw [aJ] at e2;rw [←HS.out];clear e1 HS;generalize (aX s.data.toList).length=i at*;have c1:(0:Int)≤ ↑i:=by omega
   have c2:(↑i:Int)≤ ↑s.size:=by omega
   have c3:(0:Int)≤ ↑i+1:=by omega
   have c4:(↑i+1:Int)≤ ↑s.size:=by omega
   have hw:IntKind.i64.wrap ((i:Int)+1)=(i:Int)+1:=by simpa using RO (n:=i+1) (by omega)
   have c5:i≤s.size:=by omega
   have c6:i+1≤s.size:=by omega
   have HK:Hid (KeepP fun w1=>Below w.heap.size w w1):=aH w;have HO:Hid (Below w.heap.size w w):=Below.refl _ _
   go_enter Tryz.func196,Tryz.ntmps196
   go_wp2_with (go_at_call 238;refine HI.out.mono ?_;rintro e w1 ⟨rfl,rfl⟩)
   refine bP HK (by kernel_rfl) (by kernel_rfl) (by first|exact HO.out|exact HK.out.drew HO.out) ?_;intro C HIN HOUT;clear HO
   repeat
    (with_reducible refine wpQuiet_step (fun K hK=> ?_)
     go_simp
     first
      |(refine hK _ ?_;clear hK K)
      |(apply Exists.intro;refine ⟨fun w1 hC=> ?_,hK _ ?_⟩;(focus ((first|(exact rfl)|(obtain hb1:=HOUT.out w1 hC;clear hC;go_simp;first|done|exact rfl));done));clear hK K))
   refine wpQuiet_nil ?_;intro wn hC;have HO:=aB (HOUT.out _ hC);clear hC HIN HOUT C;obtain hb1:=HO.out
   go_wp2
   go_ret3;exact ⟨_,_,rfl,HO.out⟩
theorem FB (s:ByteArray) (hsz:s.size≤9223372036854775807) (w:World):Calls Tryz.prog 154 #[.string s,.string ⟨#[47]⟩] w fun e w'=>∃ x y,e= .returned (.tuple #[.string (Sc.ba (aX s.data.toList)),.string x,.bool y])∧Below w.heap.size w w':=by
 have HC:=aB (ML s hsz w)
 go_enter Tryz.func154,Tryz.ntmps154
 go_wp2_with (go_at_call 196;refine HC.out.mono ?_;rintro e w1 ⟨x,y,rfl,ok⟩;have HB:=aB ok;clear ok)
 go_ret3;exact ⟨_,_,rfl,HB.out⟩
set_option maxHeartbeats 1600000 in
theorem JB (r:ByteArray) (hsz:r.size≤9223372036854775807) (hp:fG.isPrefixOf r.data.toList=true) (w:World):Calls Tryz.prog 108 #[.string r] w fun e w'=>e= .returned (.tuple #[.string (Sc.ba (aX (r.data.toList.drop 9))),.bool (Sc.aK (aX (r.data.toList.drop 9)))])∧Below w.heap.size w w':=by
 have HP:Hid (∀ w1,Calls Tryz.prog 153 #[.string r,.string ⟨#[47,109,111,100,117,108,101,115,47]⟩] w1 fun e w'=>e= .returned (.tuple #[.string ⟨(r.data.toList.drop 9).toArray⟩,.bool true])∧w'=w1):=fun w1=>by
  have h:=Tryz.strings_CutPrefix r ⟨#[47,109,111,100,117,108,101,115,47]⟩ w1;have e1:Lib.hasPrefix r.data.toList ([47,109,111,100,117,108,101,115,47]:List UInt8)=true:=hp;have e2:Lib.trimPrefix r.data.toList ([47,109,111,100,117,108,101,115,47]:List UInt8)=r.data.toList.drop 9:=by unfold Lib.trimPrefix;rw [if_pos e1];rfl
  simp only [e1,e2] at h;exact h
 have HC:Hid (∀ w1,Calls Tryz.prog 154 #[.string ⟨(r.data.toList.drop 9).toArray⟩,.string ⟨#[47]⟩] w1 fun e w'=>∃ x y,e= .returned (.tuple #[.string (Sc.ba (aX (r.data.toList.drop 9))),.string x,.bool y])∧Below w1.heap.size w1 w'):=fun w1=>by
  have h:=FB ⟨(r.data.toList.drop 9).toArray⟩ (by show (r.data.toList.drop 9).toArray.size≤_;simp only [List.size_toArray,List.length_drop,aJ];omega) w1
  simpa using h
 have HN:Hid (∀ w1,Calls Tryz.prog 53 #[.string (Sc.ba (aX (r.data.toList.drop 9)))] w1 fun e w'=>e= .returned (.bool (Sc.aK (aX (r.data.toList.drop 9))))∧w'=w1):=fun w1=>by
  have h:=Sc.fA (Sc.ba (aX (r.data.toList.drop 9))) w1;rw [Sc.cR] at h;exact h
 generalize Sc.aK (aX (r.data.toList.drop 9))=b at*;generalize Sc.ba (aX (r.data.toList.drop 9))=n at*;generalize (⟨(r.data.toList.drop 9).toArray⟩:ByteArray)=q at*;clear hp
 go_enter Tryz.func108,Tryz.ntmps108
 go_wp2_with (first
  |(go_at_call 153;refine (HP.out _).mono ?_;rintro e w1 ⟨rfl,rfl⟩)
  |(go_at_call 154;refine (HC.out _).mono ?_;rintro e w2 ⟨x,y,rfl,ok⟩;have HB:=aB ok;clear ok)
  |(go_at_call 53;refine (HN.out _).mono ?_;rintro e w3 ⟨rfl,rfl⟩))
 all_goals go_ret2
 all_goals exact ⟨by cases b<;>rfl,HB.out⟩
set_option maxHeartbeats 1600000 in
theorem MM (r:ByteArray) (hsz:r.size≤9223372036854775807) (hp:fG.isPrefixOf r.data.toList=false) (w:World):Calls Tryz.prog 108 #[.string r] w fun e w'=>∃ x,e= .returned (.tuple #[.string x,.bool false])∧Below w.heap.size w w':=by
 have HP:Hid (∀ w1,Calls Tryz.prog 153 #[.string r,.string ⟨#[47,109,111,100,117,108,101,115,47]⟩] w1 fun e w'=>e= .returned (.tuple #[.string r,.bool false])∧w'=w1):=fun w1=>by
  have h:=Tryz.strings_CutPrefix r ⟨#[47,109,111,100,117,108,101,115,47]⟩ w1;have e1:Lib.hasPrefix r.data.toList ([47,109,111,100,117,108,101,115,47]:List UInt8)=false:=hp;have e2:Lib.trimPrefix r.data.toList ([47,109,111,100,117,108,101,115,47]:List UInt8)=r.data.toList:=by unfold Lib.trimPrefix;rw [if_neg (by rw [e1];simp)]
  simp only [e1,e2] at h;exact h
 have HC:Hid (∀ w1,Calls Tryz.prog 154 #[.string r,.string ⟨#[47]⟩] w1 fun e w'=>∃ x y,e= .returned (.tuple #[.string (Sc.ba (aX r.data.toList)),.string x,.bool y])∧Below w1.heap.size w1 w'):=fun w1=>FB r hsz w1
 generalize Sc.ba (aX r.data.toList)=n at*;clear hp
 go_enter Tryz.func108,Tryz.ntmps108
 go_wp2_with (first
  |(go_at_call 153;refine (HP.out _).mono ?_;rintro e w1 ⟨rfl,rfl⟩)
  |(go_at_call 154;refine (HC.out _).mono ?_;rintro e w2 ⟨x,y,rfl,ok⟩;have HB:=aB ok;clear ok))
 all_goals go_ret2
 all_goals exact ⟨_,rfl,HB.out⟩
def QD (t:List UInt8):Prop:=∀ L r,aV L=true→aW L++r=t→L.length≤14073748835124
theorem CB {L:List ByteArray} {n:List UInt8} (h:aV L=true) (hn:Sc.aK n=true):aV (L++[Sc.ba n])=true:=by
 unfold aV at*;rw [List.all_append,h];simp only [List.all_cons,List.all_nil,Bool.and_true,Bool.true_and];rw [Sc.cR];exact hn
theorem JC (A B:List ByteArray):aW (A++B)=aW A++aW B:=by simp [aW]
theorem SM {r:List UInt8} (h:fG.isPrefixOf r=true):r=fG++r.drop 9:=by
 rw [List.isPrefixOf_iff_prefix,List.prefix_iff_eq_append] at h;exact h.symm
theorem qQ {r:List UInt8} (h:fG.isPrefixOf r=true):r=fG++aX (r.drop 9)++(r.drop 9).drop (aX (r.drop 9)).length:=by
 have h1:(r.drop 9).take (aX (r.drop 9)).length++(r.drop 9).drop (aX (r.drop 9)).length=r.drop 9:=List.take_append_drop _ _;rw [qM] at h1;rw [List.append_assoc,h1];exact SM h
theorem yH {o:Option (List ByteArray)} (A:List ByteArray) (n:ByteArray):(o.map fun L=>n::L).map (fun L=>A++L)=o.map fun L=>(A++[n])++L:=by
 cases o<;>simp
theorem MN {r:ByteArray} (h:fG.isPrefixOf r.data.toList=true):9+(aX (r.data.toList.drop 9)).length≤r.size:=by
 have h1:=congrArg List.length (qQ h);rw [List.length_append,List.length_append,yF,aJ] at h1;omega
set_option maxHeartbeats 3200000 in
theorem yI (t:ByteArray) (ht:t.size≤9223372036854775807) (hf:QD t.data.toList) (h0:t.data.toList≠[47]) (w:World):
 Calls Tryz.prog 58 #[.string t] w fun e w'=>∃ v,e= .returned (.tuple #[v,.bool (bY t.data.toList).isSome])∧OwnPa w' w.heap.size v ((bY t.data.toList).getD [])∧Below w.heap.size w w':=by
 have HV:Hid (bY t.data.toList=if t.data.toList=[] then none else dW t.data.toList):=by unfold Hid bY;rw [if_neg h0]
 have HF:=aB hf;have HFY:Hid (∀ (r:ByteArray),r.size≤t.size→fG.isPrefixOf r.data.toList=true→∀ w1,Calls Tryz.prog 108 #[.string r] w1 fun e w'=>e= .returned (.tuple #[.string (Sc.ba (aX (r.data.toList.drop 9))),.bool (Sc.aK (aX (r.data.toList.drop 9)))])∧Below w1.heap.size w1 w'):=fun r hz hp w1=>JB r (by omega) hp w1
 have HFN:Hid (∀ (r:ByteArray),r.size≤t.size→fG.isPrefixOf r.data.toList=false→∀ w1,Calls Tryz.prog 108 #[.string r] w1 fun e w'=>∃ x,e= .returned (.tuple #[.string x,.bool false])∧Below w1.heap.size w1 w'):=fun r hz hp w1=>MM r (by omega) hp w1
 have HCL:Hid (∀ (s:ByteArray),s.size≤281474976710656→∀ w1,Calls Tryz.prog 109 #[.string s] w1 fun e w'=>e= .returned (.string s)∧Below w1.heap.size w1 w'):=fun s hs w1=>Sc.IZ s hs w1
 have HON:Hid (OwnPa w w.heap.size (.slice none 0 0) []):=⟨rfl,Or.inl ⟨rfl,rfl⟩⟩;obtain ⟨i0,hi,hz0,hz1,hz2⟩:=Sc.bX Sc.lK;have hq0:(t.toList==[47])=false:=by rw [beq_eq_false_iff_ne,ByteArray.toList_eq];exact h0
 clear hf h0
 go_enter Tryz.func58,Tryz.ntmps58
 go_wp2_with fail
 go_loopw [4,5] (fun vp vr wr=>∃ (L:List ByteArray) (r:ByteArray),vr= .string r∧aV L=true∧aW L++r.data.toList=t.data.toList∧dW t.data.toList=(dW r.data.toList).map (fun M=>L++M)∧OwnPa wr w.heap.size vp L∧Below w.heap.size w wr) (fun _ vr _=>match vr with| .string r=>r.size|_=>0)
 case atStart=>exact ⟨[],t,rfl,rfl,rfl,by simp,HON.out,Below.refl _ _⟩
 case round=>
  obtain ⟨L,r,rfl,hns,htx,hpt,hown,hb⟩:=hrel;have HN:=aB hns;have HT:=aB htx;have HP:=aB hpt;have HO:=aB hown;have HB:=aB hb;have HLN:=aB (HF.out L _ hns htx);obtain ⟨pa,pc,rfl,hpc⟩:=hown.form;clear hns htx hpt hown hb
  have hrt:r.size≤t.size:=by
   have e:=congrArg List.length HT.out;rw [List.length_append,aJ,aJ] at e;omega
  by_cases hr:r.data.toList=[]
  · have hre:(r.toList==[])=true:=by rw [ByteArray.toList_eq,hr];rfl
    have HPE:Hid (dW t.data.toList=some L):=by unfold Hid;rw [HP.out,hr,nK];simp
    have HLL:Hid (aW L=t.data.toList):=by have e:=HT.out;rw [hr,List.append_nil] at e;exact e
    cases L with
    |nil=>
     have HR:Hid (bY t.data.toList=none):=by unfold Hid;rw [HV.out,if_pos (by rw [←HLL.out];rfl)]
     rw [List.length_nil];have hrs:r.toList=[]:=by rw [ByteArray.toList_eq,hr]
     clear hre
     go_wp2
     go_ret2;exact ⟨_,by rw [HR.out];rfl,by rw [HR.out];exact HO.out,HB.out⟩
    |cons n L=>
     have HR:Hid (bY t.data.toList=some (n::L)):=by unfold Hid;rw [HV.out,if_neg (by rw [←HLL.out];simp [aW,eD]),HPE.out]
     have hp:(0:Int)<(((n::L).length:Nat):Int):=by rw [List.length_cons];omega
     have hrs:r.toList=[]:=by rw [ByteArray.toList_eq,hr]
     clear hre
     go_wp2
     go_ret2;exact ⟨_,by rw [HR.out];rfl,by rw [HR.out];exact HO.out,HB.out⟩
  · have hre:(r.toList==[])=false:=by rw [beq_eq_false_iff_ne,ByteArray.toList_eq];exact hr
    have hrn:r.toList≠[]:=by rw [ByteArray.toList_eq];exact hr
    have hre2:r.toList.isEmpty=false:=by rw [ByteArray.toList_eq];cases e:r.data.toList with|nil=>exact absurd e hr|cons _ _=>rfl
    have HNE:Hid (t.data.toList≠[]):=fun e=>by
     have q:=HT.out;rw [e] at q;exact hr (List.append_eq_nil_iff.1 q).2
    cases hp:fG.isPrefixOf r.data.toList
    · have HR:Hid (bY t.data.toList=none):=by unfold Hid;rw [HV.out,if_neg HNE.out,HP.out,qN hr (by rw [hp];simp)];rfl
      have HC:=aB (HFN.out r hrt hp);clear hp hr
      go_wp2_with (go_at_call 108;refine (HC.out _).mono ?_;rintro e w1 ⟨x,rfl,ok⟩;have HB1:=aB (aA HB.out ok);clear ok)
      go_ret2;exact ⟨_,by rw [HR.out];rfl,by rw [HR.out];exact ⟨rfl,Or.inl ⟨rfl,rfl⟩⟩,HB1.out⟩
    · have HC:=aB (HFY.out r hrt hp)
      cases hn:Sc.aK (aX (r.data.toList.drop 9))
      · have HR:Hid (bY t.data.toList=none):=by unfold Hid;rw [HV.out,if_neg HNE.out,HP.out,qN hr (by rw [hn];simp)];rfl
        rw [hn] at HC;generalize Sc.ba (aX (r.data.toList.drop 9))=nm at*;clear hp hr hn
        go_wp2_with (go_at_call 108;refine (HC.out _).mono ?_;rintro e w1 ⟨rfl,ok⟩;have HB1:=aB (aA HB.out ok);clear ok)
        go_ret2;exact ⟨_,by rw [HR.out];rfl,by rw [HR.out];exact ⟨rfl,Or.inl ⟨rfl,rfl⟩⟩,HB1.out⟩
      · rw [hn] at HC
        have hsz:=MN hp;have HNN:Hid (aV (L++[Sc.ba (aX (r.data.toList.drop 9))])=true):=CB HN.out hn
        have HRL:Hid ((r.extract (9+(aX (r.data.toList.drop 9)).length) r.size).data.toList=(r.data.toList.drop 9).drop (aX (r.data.toList.drop 9)).length):=by
         unfold Hid;rw [Sc.kT,Sc.cR,←aJ,List.take_length,List.drop_drop]
        have HTN:Hid (aW (L++[Sc.ba (aX (r.data.toList.drop 9))])++(r.extract (9+(aX (r.data.toList.drop 9)).length) r.size).data.toList=t.data.toList):=by
         unfold Hid;rw [lA,HRL.out,Sc.cR,List.append_assoc,List.append_assoc,←HT.out]
         congr 1
         rw [←List.append_assoc];exact (qQ hp).symm
        have HPN:Hid (dW t.data.toList=(dW (r.extract (9+(aX (r.data.toList.drop 9)).length) r.size).data.toList).map (fun M=>(L++[Sc.ba (aX (r.data.toList.drop 9))])++M)):=by
         unfold Hid;rw [HP.out,HRL.out,qO hr hp hn,yH]
        have hns:(Sc.ba (aX (r.data.toList.drop 9))).size=(aX (r.data.toList.drop 9)).length:=by show (aX (r.data.toList.drop 9)).toArray.size=_;simp
        have hnb:(Sc.ba (aX (r.data.toList.drop 9))).size≤16:=nH (by rw [Sc.cR];exact hn);have hnp:0<(aX (r.data.toList.drop 9)).length:=tW hn;have HLM:=aB (HF.out _ _ HNN.out HTN.out);generalize (aX (r.data.toList.drop 9)).length=m at*;generalize Sc.ba (aX (r.data.toList.drop 9))=nm at*;have hll:L.length+1≤14073748835124:=by have e:=HLM.out;rw [List.length_append] at e;exact e
        have HCN:=aB (HCL.out nm (by omega));subst m;clear hp hr hn
        go_wp2_with (first
         |(go_at_call 108;refine (HC.out _).mono ?_;rintro e w1 ⟨rfl,ok⟩;have HO1:=aB (HO.out.below ok);have HB1:=aB (aA HB.out ok);clear ok)
         |(go_at_call 109;refine (HCN.out _).mono ?_;rintro e w2 ⟨rfl,ok⟩;have HO2:=aB (HO1.out.below ok);have HB2:=aB (aA HB1.out ok);clear ok)
         |(have _h:=HO2;at_builtin;refine wpList_append_own_wide _ rfl _ _ 50 rfl w.heap.size 9 i0 _ 1 16 Tryz.underlying50 hi hz0 hz1 hz2 rfl (by decide) _ _ _ rfl (HO2.out.alloc _) ⟨w2.heap.size,0,none⟩ 1 1 [.string nm] rfl rfl (cell_one_new _ _ _) (by simp [Value.oneCell']) (by unfold maxLen;omega) (by omega) (by have:=HB2.out.size;simp;omega) ?_;intro v3 w3 ho3 hg3 _;have HO3:Hid (OwnPa w3 w.heap.size v3 (L++[nm])):=(by have e:=ho3;unfold Hid OwnPa pcs;rw [List.map_append,List.length_append];exact e);have HB3:Hid (Below w.heap.size w w3):=(HB2.out.alloc (by have:=HB2.out.size;omega) _).grown hg3 (by have:=HB2.out.size;simp;omega) (fun k hk=>(World.ownsRow.lt HO2.out k hk).1);clear ho3 hg3))
        exact ⟨⟨L++[nm],_,rfl,HNN.out,HTN.out,HPN.out,HO3.out,HB3.out⟩,by simp;omega⟩
theorem CD (t:ByteArray) (ht:t.size≤9223372036854775807) (hf:QD t.data.toList) (w:World):
 Calls Tryz.prog 58 #[.string t] w fun e w'=>∃ v,e= .returned (.tuple #[v,.bool (bY t.data.toList).isSome])∧OwnPa w' w.heap.size v ((bY t.data.toList).getD [])∧Below w.heap.size w w':=by
 by_cases h0:t.data.toList=[47]
 · obtain rfl:t=⟨#[47]⟩:=aQ (by rw [ByteArray.toList_eq,ByteArray.toList_eq,h0])
   have HR:Hid (bY (⟨#[47]⟩:ByteArray).data.toList=some []):=rfl;rw [HR.out];clear hf ht h0
   go_enter Tryz.func58,Tryz.ntmps58
   go_wp2
   go_ret2;exact ⟨_,rfl,⟨rfl,Or.inl ⟨rfl,rfl⟩⟩,Below.refl _ _⟩
 · exact yI t ht hf h0 w
theorem iV {s:ByteArray} {L:List ByteArray}:aV (s::L)=true↔Sc.aK s.data.toList=true∧aV L=true:=by
 unfold aV;rw [List.all_cons,Bool.and_eq_true]
theorem cL (s:ByteArray) (L:List ByteArray):aW (s::L)=fG++(s.data.toList++aW L):=by
 unfold aW fG;rw [List.flatMap_cons,List.append_assoc]
theorem CE (L:List ByteArray):aW L=[]∨∃ t,aW L=47::t:=by
 cases L with
 |nil=>exact Or.inl rfl
 |cons s L=>exact Or.inr ⟨_,cL s L⟩
theorem QE (r:List UInt8):fG.isPrefixOf (fG++r)=true:=by rw [List.isPrefixOf_iff_prefix];exact List.prefix_append _ _
theorem yJ (r:List UInt8):(fG++r).drop 9=r:=List.drop_left (l₁:=fG)
theorem oB:∀ {L:List ByteArray},aV L=true→dW (aW L)=some L
 |[],_=>nK
 |s::L,h=>by
  obtain ⟨h1,h2⟩:=iV.1 h;have hh:aX (s.data.toList++aW L)=s.data.toList:=JA (qP h1) (CE L);have e:=qO (r:=aW (s::L)) (by rw [cL];simp [fG,eD]) (by rw [cL];exact QE _) (by rw [cL,yJ,hh];exact h1);rw [e,cL,yJ,hh,List.drop_left,oB h2];rfl
theorem oC:∀ (n:Nat) {r:List UInt8} {L:List ByteArray},r.length≤n→dW r=some L→aW L=r∧aV L=true
 |n,[],L,_,h=>by
  rw [nK] at h;cases h;exact ⟨rfl,rfl⟩
 |0,_::_,_,hn,_=>by simp at hn
 |n+1,b::r,L,hn,h=>by
  by_cases hq:fG.isPrefixOf (b::r)=true∧Sc.aK (aX ((b::r).drop 9))=true
  · rw [qO (by simp) hq.1 hq.2] at h
    cases hp:dW (((b::r).drop 9).drop (aX ((b::r).drop 9)).length) with
    |none=>rw [hp] at h;cases h
    |some M=>
     rw [hp] at h;cases h;have ih:=oC n (by simp only [List.length_drop,List.length_cons] at hn ⊢;omega) hp;refine ⟨?_,iV.2 ⟨by rw [Sc.cR];exact hq.2,ih.2⟩⟩;rw [cL,ih.1,Sc.cR,←List.append_assoc];exact (qQ hq.1).symm
  · rw [qN (by simp) hq] at h
    cases h
theorem iW {L:List ByteArray} (h:L=[]∨aV L=true):bY (aG L).data.toList=some L:=by
 rcases Classical.em (L=[]) with rfl|h0
 · rfl
 · have hn:aV L=true:=h.resolve_left h0
   have e:(aG L).data.toList=aW L:=by unfold aG;rw [if_neg h0,if_pos hn]
   rw [e];cases L with
   |nil=>exact absurd rfl h0
   |cons s L=>
    unfold bY;rw [if_neg (by rw [cL];simp [fG,eD]),if_neg (by rw [cL];simp [fG,eD])];exact oB hn
theorem CF {t:ByteArray} {L:List ByteArray} (h:bY t.data.toList=some L):aG L=t:=by
 unfold bY at h
 by_cases h1:t.data.toList=[47]
 · rw [if_pos h1] at h
   cases h;exact aQ (by rw [ByteArray.toList_eq,ByteArray.toList_eq,h1];rfl)
 · rw [if_neg h1] at h
   by_cases h2:t.data.toList=[]
   · rw [if_pos h2] at h
     cases h
   · rw [if_neg h2] at h
     obtain ⟨e1,e2⟩:=oC _ (Nat.le_refl _) h;have h0:L≠[]:=fun e=>h2 (by rw [←e1,e];rfl)
     unfold aG;rw [if_neg h0,if_pos e2];exact aQ (by rw [ByteArray.toList_eq,ByteArray.toList_eq,←e1])
theorem jU:∀ {L:List ByteArray},aV L=true→10*L.length≤(aW L).length
 |[],_=>by simp
 |s::L,h=>by
  obtain ⟨h1,h2⟩:=iV.1 h
  have:=jU h2
  have:=tW h1
  rw [cL,List.length_append,List.length_append,yF,List.length_cons];omega
theorem fC:∀ {L:List ByteArray},aV L=true→(aW L).count 47=2*L.length
 |[],_=>by simp [aW]
 |s::L,h=>by
  obtain ⟨h1,h2⟩:=iV.1 h;have e1:fG.count 47=2:=by decide
  have e2:s.data.toList.count 47=0:=List.count_eq_zero.2 (qP h1);rw [cL,List.count_append,List.count_append,e1,e2,fC h2,List.length_cons];omega
theorem qR (L:List ByteArray) (k:Nat):(aW (L.take k)).length≤(aW L).length:=by
 have e:aW L=aW (L.take k)++aW (L.drop k):=by rw [←JC,List.take_append_drop]
 rw [e,List.length_append];omega
set_option maxHeartbeats 1600000 in
theorem yK (A B:List Sp) (hAB:A.length=B.length) (hsz:A.length≤9223372036854775807) (ga oa ca gb ob cb:Nat) (w:World) (hga:ga<w.heap.size) (hgb:gb<w.heap.size) (hla:∀ i (h:i<A.length),SpAt w ga (oa+i*6) A[i]) (hlb:∀ i (h:i<B.length),SpAt w gb (ob+i*6) B[i]):
 Calls Tryz.prog 110 #[.slice (some ⟨ga,oa,none⟩) A.length ca,.slice (some ⟨gb,ob,none⟩) B.length cb] w fun e w'=>e= .returned (.bool (eqB A B))∧Below w.heap.size w w':=by
 have HL:Hid (∀ w1,Below w.heap.size w w1→∀ i (h:i<A.length) (h2:i<B.length),kV w1 ga (oa+i*6) A[i]∧kV w1 gb (ob+i*6) B[i]):=fun w1 hb i hi hi2=>⟨⟨(hla i hi).below hb hga,Nat.lt_of_lt_of_le hga hb.size⟩,⟨(hlb i hi2).below hb hgb,Nat.lt_of_lt_of_le hgb hb.size⟩⟩
 have HAB:=aB hAB;clear hla hlb;rw [←hAB];clear hAB
 go_enter Tryz.func110,Tryz.ntmps110
 go_wp2_with fail
 go_loopw [5] (fun i wr=>∃ k:Nat,k≤A.length∧i= .int .i64 k∧Below w.heap.size w wr∧∀ j (h:j<k) (h1:j<A.length) (h2:j<B.length),A[j]=B[j]) (fun i _=>A.length - (intOf i).toNat)
 case atStart=>exact ⟨0,Nat.zero_le _,rfl,Below.refl _ _,fun j h=>by omega⟩
 case round=>
  obtain ⟨k,hk,rfl,hb,hall⟩:=hrel;have HALL:=aB hall;have HB:=aB hb;clear hall
  by_cases hlt:k<A.length
  · have hltB:k<B.length:=HAB.out ▸ hlt
    have HO:Hid (Below w.heap.size w wr∧kV wr ga (oa+k*6) A[k]∧kV wr gb (ob+k*6) B[k]):=⟨hb,HL.out wr hb k hlt hltB⟩;have HK:Hid (KeepP fun w1=>Below w.heap.size w w1∧kV w1 ga (oa+k*6) A[k]∧kV w1 gb (ob+k*6) B[k]):=(aH w).and ((mR _ _ _).and (mR _ _ _));have HNE:Hid (eqS A[k] B[k]=false→eqB A B=false):=fun h=>bJ fun e=>by subst e;rw [(kB).2 rfl] at h;cases h
    have HST:Hid (eqS A[k] B[k]=true→∀ j (h:j<k+1) (h1:j<A.length) (h2:j<B.length),A[j]=B[j]):=fun h j hj h1 h2=>by
     rcases Nat.lt_or_ge j k with hjk|hjk
     · exact HALL.out j hjk h1 h2
     · obtain rfl:j=k:=by omega
       exact kB.1 h
    generalize A[k]=s at*;generalize B[k]=t at*;obtain ⟨a,b,c,x,y,z⟩:=s;obtain ⟨a',b',c',x',y',z'⟩:=t;have he:=LI a b c x y z a' b' c' x' y' z';have hgd:=ER;cases hq:eqS ⟨a,b,c,x,y,z⟩ ⟨a',b',c',x',y',z'⟩
    · have HR:=aB (HNE.out hq)
      rw [hq] at he;clear hb HNE HST HALL
      go_wp2_with fail
      refine bP HK (by kernel_rfl) (by kernel_rfl) (by first|exact HO.out|exact HK.out.drew HO.out) ?_;intro C HIN HOUT;clear HO
      repeat
       (with_reducible refine wpQuiet_step (fun K hK=> ?_)
        go_simp
        first
         |(refine hK _ ?_;clear hK K)
         |(apply Exists.intro;refine ⟨fun w1 hC=> ?_,hK _ ?_⟩;(focus ((first|(exact rfl)|(obtain ⟨hb1,⟨⟨p0,p1,p2,p3,p4,p5⟩,p6⟩,⟨⟨q0,q1,q2,q3,q4,q5⟩,q6⟩⟩:=HOUT.out w1 hC;clear hC;go_simp;first|done|exact rfl));done));clear hK K))
      refine wpQuiet_nil ?_;intro wn hC;have HO:=aB (HOUT.out _ hC);clear hC HIN HOUT C;obtain ⟨hb1,⟨⟨p0,p1,p2,p3,p4,p5⟩,p6⟩,⟨⟨q0,q1,q2,q3,q4,q5⟩,q6⟩⟩:=HO.out
      go_wp2
      go_ret;exact ⟨aC HR.out.symm,HO.out.1⟩
    · have HR:=aB (HST.out hq)
      rw [hq] at he;clear hb HNE HST HALL
      go_wp2_with fail
      refine bP HK (by kernel_rfl) (by kernel_rfl) (by first|exact HO.out|exact HK.out.drew HO.out) ?_;intro C HIN HOUT;clear HO
      repeat
       (with_reducible refine wpQuiet_step (fun K hK=> ?_)
        go_simp
        first
         |(refine hK _ ?_;clear hK K)
         |(apply Exists.intro;refine ⟨fun w1 hC=> ?_,hK _ ?_⟩;(focus ((first|(exact rfl)|(obtain ⟨hb1,⟨⟨p0,p1,p2,p3,p4,p5⟩,p6⟩,⟨⟨q0,q1,q2,q3,q4,q5⟩,q6⟩⟩:=HOUT.out w1 hC;clear hC;go_simp;first|done|exact rfl));done));clear hK K))
      refine wpQuiet_nil ?_;intro wn hC;have HO:=aB (HOUT.out _ hC);clear hC HIN HOUT C;obtain ⟨hb1,⟨⟨p0,p1,p2,p3,p4,p5⟩,p6⟩,⟨⟨q0,q1,q2,q3,q4,q5⟩,q6⟩⟩:=HO.out
      go_wp2
      exact ⟨⟨k+1,by omega,by go_num,HO.out.1,HR.out⟩,by simp [intOf];omega⟩
  · have hke:k=A.length:=by omega
    subst hke;have HR:Hid (eqB A B=true):=aO (List.ext_getElem HAB.out fun j h1 h2=>HALL.out j h1 h1 h2);clear hb
    go_wp2
    go_ret;exact ⟨aC HR.out.symm,HB.out⟩
theorem qS (ad bd:Option Addr) (ca cb:Nat) (w:World):
 Calls Tryz.prog 110 #[.slice ad 0 ca,.slice bd 0 cb] w fun e w'=>e= .returned (.bool true)∧Below w.heap.size w w':=by
 go_enter Tryz.func110,Tryz.ntmps110
 go_wp2_with fail
 go_loop [5] (fun i=>i= .int .i64 0) (fun _=>0)
 case atStart=>rfl
 case round=>
  subst hrel
  go_wp2
  go_ret;exact ⟨rfl,Below.refl _ _⟩
theorem CG (ad bd:Option Addr) (n m ca cb:Nat) (h:n≠m) (w:World):
 Calls Tryz.prog 110 #[.slice ad n ca,.slice bd m cb] w fun e w'=>e= .returned (.bool false)∧Below w.heap.size w w':=by
 have hn:((n:Int)=(m:Int))=False:=by simp;omega
 go_enter Tryz.func110,Tryz.ntmps110
 go_wp2
 go_ret;exact ⟨rfl,Below.refl _ _⟩
theorem CH {A B:List Sp} {va vb:Value} {w:World} (ha:SpansAt w va A) (hb:SpansAt w vb B) (hsz:A.length≤9223372036854775807):
 Calls Tryz.prog 110 #[va,vb] w fun e w'=>e= .returned (.bool (eqB A B))∧Below w.heap.size w w':=by
 obtain ⟨ad,ca,rfl,hl⟩:=ha;obtain ⟨bd,cb,rfl,hm⟩:=hb
 by_cases hn:A.length=B.length
 · rcases hl with rfl|⟨ga,oa,rfl,hga,hla⟩
   · obtain rfl:B=[]:=List.eq_nil_of_length_eq_zero (by simpa using hn.symm)
     rw [aO rfl];exact qS _ _ _ _ w
   · rcases hm with rfl|⟨gb,ob,rfl,hgb,hlb⟩
     · obtain rfl:A=[]:=List.eq_nil_of_length_eq_zero (by simpa using hn)
       rw [aO rfl];exact qS _ _ _ _ w
     · exact yK A B hn hsz ga oa ca gb ob cb w hga hgb hla hlb
 · rw [bJ fun e=>hn (by rw [e])]
   exact CG _ _ _ _ _ _ hn w
set_option maxHeartbeats 3200000 in
theorem CI (A B:List Dp) (hAB:A.length=B.length) (hsz:A.length≤9223372036854775807) (ga oa ca gb ob cb:Nat) (w:World) (hla:∀ i (h:i<A.length),∃ u,DpIn w ga (oa+i*2) A[i] u) (hlb:∀ i (h:i<B.length),∃ u,DpIn w gb (ob+i*2) B[i] u):
 Calls Tryz.prog 60 #[.slice (some ⟨ga,oa,none⟩) A.length ca,.slice (some ⟨gb,ob,none⟩) B.length cb] w fun e w'=>e= .returned (.bool (eqB A B))∧Below w.heap.size w w':=by
 have HL:Hid (∀ w1,Below w.heap.size w w1→∀ i (h:i<A.length) (h2:i<B.length),(∃ u,DpIn w1 ga (oa+i*2) A[i] u)∧∃ u,DpIn w1 gb (ob+i*2) B[i] u):=fun w1 hb i hi hi2=>⟨(hla i hi).imp fun u h=>h.below hb,(hlb i hi2).imp fun u h=>h.below hb⟩
 have HAB:=aB hAB;clear hla hlb;rw [←hAB];clear hAB
 go_enter Tryz.func60,Tryz.ntmps60
 go_wp2_with fail
 go_loopw [5] (fun i wr=>∃ k:Nat,k≤A.length∧i= .int .i64 k∧Below w.heap.size w wr∧∀ j (h:j<k) (h1:j<A.length) (h2:j<B.length),A[j]=B[j]) (fun i _=>A.length - (intOf i).toNat)
 case atStart=>exact ⟨0,Nat.zero_le _,rfl,Below.refl _ _,fun j h=>by omega⟩
 case round=>
  obtain ⟨k,hk,rfl,hb,hall⟩:=hrel;have HALL:=aB hall;have HB:=aB hb;clear hall
  by_cases hlt:k<A.length
  · have hltB:k<B.length:=HAB.out ▸ hlt
    obtain ⟨⟨u,hu⟩,⟨v,hv⟩⟩:=HL.out wr hb k hlt hltB;have HO:Hid (Below w.heap.size w wr∧DpIn wr ga (oa+k*2) A[k] u∧DpIn wr gb (ob+k*2) B[k] v):=⟨hb,hu,hv⟩;have HK:Hid (KeepP fun w1=>Below w.heap.size w w1∧DpIn w1 ga (oa+k*2) A[k] u∧DpIn w1 gb (ob+k*2) B[k] v):=(aH w).and ((LJ _ _ _ _).and (LJ _ _ _ _));have HC:Hid (∀ w1,(Below w.heap.size w w1∧DpIn w1 ga (oa+k*2) A[k] u∧DpIn w1 gb (ob+k*2) B[k] v)→Calls Tryz.prog 110 #[u,v] w1 fun x w'=>x= .returned (.bool (eqB A[k].rg B[k].rg))∧Below w1.heap.size w1 w'):=fun w1 h=>CH h.2.1.2.2.1.1.1 h.2.2.2.2.1.1.1 h.2.1.2.2.1.2
    have HNE:Hid (A[k]≠B[k]→eqB A B=false):=fun h=>bJ fun e=>by subst e;exact h rfl
    have HST:Hid (A[k]=B[k]→∀ j (h:j<k+1) (h1:j<A.length) (h2:j<B.length),A[j]=B[j]):=fun h j hj h1 h2=>by
     rcases Nat.lt_or_ge j k with hjk|hjk
     · exact HALL.out j hjk h1 h2
     · obtain rfl:j=k:=by omega
       exact h
    obtain ⟨au,cu,rfl⟩:=hu.2.2.1.1.1.sl;obtain ⟨av,cv,rfl⟩:=hv.2.2.1.1.1.sl;clear hu hv;generalize A[k]=d at*;generalize B[k]=e at*;obtain ⟨n,r⟩:=d;obtain ⟨m,q⟩:=e
    simp only at*
    by_cases hn:n=m
    · subst hn
      have hq:(n.toList==n.toList)=true:=by simp
      cases hr:eqB r q
      · have HR:=aB (HNE.out fun e=>by injection e with _ e2;rw [aO e2] at hr;cases hr)
        rw [hr] at HC;clear hb HNE HST HALL hr
        go_wp2_with fail
        refine bP HK (by kernel_rfl) (by kernel_rfl) (by first|exact HO.out|exact HK.out.drew HO.out) ?_;intro C HIN HOUT;clear HO
        repeat
         (with_reducible refine wpQuiet_step (fun K hK=> ?_)
          go_simp
          first
           |(refine hK _ ?_;clear hK K)
           |(apply Exists.intro;refine ⟨fun w1 hC=> ?_,hK _ ?_⟩;(focus ((first|(go_at_call 110;with_reducible exact bE HIN HOUT HK HC.out w1 hC)|(exact rfl)|(obtain ⟨hb1,⟨p0,p1,ph,p3⟩,⟨q0,q1,qh,q3⟩⟩:=HOUT.out w1 hC;clear hC;go_simp;first|done|exact rfl));done));clear hK K))
        refine wpQuiet_nil ?_;intro wn hC;have HO:=aB (HOUT.out _ hC);clear hC HIN HOUT C;obtain ⟨hb1,⟨p0,p1,ph,p3⟩,⟨q0,q1,qh,q3⟩⟩:=HO.out
        go_wp2
        go_ret;exact ⟨aC HR.out.symm,HO.out.1⟩
      · have HR:=aB (HST.out (by rw [cH.1 hr]))
        rw [hr] at HC;clear hb HNE HST HALL hr
        go_wp2_with fail
        refine bP HK (by kernel_rfl) (by kernel_rfl) (by first|exact HO.out|exact HK.out.drew HO.out) ?_;intro C HIN HOUT;clear HO
        repeat
         (with_reducible refine wpQuiet_step (fun K hK=> ?_)
          go_simp
          first
           |(refine hK _ ?_;clear hK K)
           |(apply Exists.intro;refine ⟨fun w1 hC=> ?_,hK _ ?_⟩;(focus ((first|(go_at_call 110;with_reducible exact bE HIN HOUT HK HC.out w1 hC)|(exact rfl)|(obtain ⟨hb1,⟨p0,p1,ph,p3⟩,⟨q0,q1,qh,q3⟩⟩:=HOUT.out w1 hC;clear hC;go_simp;first|done|exact rfl));done));clear hK K))
        refine wpQuiet_nil ?_;intro wn hC;have HO:=aB (HOUT.out _ hC);clear hC HIN HOUT C;obtain ⟨hb1,⟨p0,p1,ph,p3⟩,⟨q0,q1,qh,q3⟩⟩:=HO.out
        go_wp2
        exact ⟨⟨k+1,by omega,by go_num,HO.out.1,HR.out⟩,by simp [intOf];omega⟩
    · have HR:=aB (HNE.out fun e=>hn (by injection e))
      have hq:(n.toList==m.toList)=false:=beq_eq_false_iff_ne.2 fun e=>hn (aQ e)
      clear hb HNE HST HALL HC
      go_wp2_with fail
      refine bP HK (by kernel_rfl) (by kernel_rfl) (by first|exact HO.out|exact HK.out.drew HO.out) ?_;intro C HIN HOUT;clear HO
      repeat
       (with_reducible refine wpQuiet_step (fun K hK=> ?_)
        go_simp
        first
         |(refine hK _ ?_;clear hK K)
         |(apply Exists.intro;refine ⟨fun w1 hC=> ?_,hK _ ?_⟩;(focus ((first|(exact rfl)|(obtain ⟨hb1,⟨p0,p1,ph,p3⟩,⟨q0,q1,qh,q3⟩⟩:=HOUT.out w1 hC;clear hC;go_simp;first|done|exact rfl));done));clear hK K))
      refine wpQuiet_nil ?_;intro wn hC;have HO:=aB (HOUT.out _ hC);clear hC HIN HOUT C;obtain ⟨hb1,⟨p0,p1,ph,p3⟩,⟨q0,q1,qh,q3⟩⟩:=HO.out
      go_wp2
      go_ret;exact ⟨aC HR.out.symm,HO.out.1⟩
  · have hke:k=A.length:=by omega
    subst hke;have HR:Hid (eqB A B=true):=aO (List.ext_getElem HAB.out fun j h1 h2=>HALL.out j h1 h1 h2);clear hb
    go_wp2
    go_ret;exact ⟨aC HR.out.symm,HB.out⟩
theorem tX (ad bd:Option Addr) (ca cb:Nat) (w:World):
 Calls Tryz.prog 60 #[.slice ad 0 ca,.slice bd 0 cb] w fun e w'=>e= .returned (.bool true)∧Below w.heap.size w w':=by
 go_enter Tryz.func60,Tryz.ntmps60
 go_wp2_with fail
 go_loop [5] (fun i=>i= .int .i64 0) (fun _=>0)
 case atStart=>rfl
 case round=>
  subst hrel
  go_wp2
  go_ret;exact ⟨rfl,Below.refl _ _⟩
theorem JD (ad bd:Option Addr) (n m ca cb:Nat) (h:n≠m) (w:World):
 Calls Tryz.prog 60 #[.slice ad n ca,.slice bd m cb] w fun e w'=>e= .returned (.bool false)∧Below w.heap.size w w':=by
 have hn:((n:Int)=(m:Int))=False:=by simp;omega
 go_enter Tryz.func60,Tryz.ntmps60
 go_wp2
 go_ret;exact ⟨rfl,Below.refl _ _⟩
theorem eS {A B:List Dp} {va vb:Value} {w:World} (ha:DepsAt w va A) (hb:DepsAt w vb B) (hsz:A.length≤9223372036854775807):
 Calls Tryz.prog 60 #[va,vb] w fun e w'=>e= .returned (.bool (eqB A B))∧Below w.heap.size w w':=by
 obtain ⟨ad,ca,rfl,_,hl⟩:=ha;obtain ⟨bd,cb,rfl,_,hm⟩:=hb
 by_cases hn:A.length=B.length
 · rcases hl with rfl|⟨ga,oa,rfl,hga,hla⟩
   · obtain rfl:B=[]:=List.eq_nil_of_length_eq_zero (by simpa using hn.symm)
     rw [aO rfl];exact tX _ _ _ _ w
   · rcases hm with rfl|⟨gb,ob,rfl,hgb,hlb⟩
     · obtain rfl:A=[]:=List.eq_nil_of_length_eq_zero (by simpa using hn)
       rw [aO rfl];exact tX _ _ _ _ w
     · exact CI A B hn hsz ga oa ca gb ob cb w hla hlb
 · rw [bJ fun e=>hn (by rw [e])]
   exact JD _ _ _ _ _ _ hn w
end Go.Proofs.YtlmpiohbmlddiaaGreatDoor
namespace Go.Proofs.YtlmpiohbmlddiaaGreatDoor
open Go.ChangeShapes Go.WideShapes Go.ChangeAt Go.RowKit
set_option maxRecDepth 100000
theorem TO: "*" ++ "errors.errorString" = "*errors.errorString" :=by decide
theorem FC (u:TypeId) (h:Tryz.prog.typeName? 3 u=some "*errors.errorString"):u=344:=
 typeName_ptr_named (nm:= "errors.errorString") (by rw [TO];kernel_rfl) (by kernel_rfl) (by decide) u (by rw [TO];exact h)
theorem MO {W:World} (h:W.ShapedOpen Tryz.prog):∃ m,W.cell? ⟨0,0,none⟩=some (.int .i64 m):=
 cell_of_shapedOpen_int (t:=3) (zero:= #[.int .i64 0]) h (by decide+kernel) (by kernel_rfl) rfl (by kernel_rfl) (by kernel_rfl) Tryz.underlying3
theorem QF:Tryz.prog.cellsOf 210=6:=by kernel_rfl
theorem lX {H:Type} {enc:TypeId×Value→H} {W:World} {base:Nat} {spare:Nat→Bool} {held:Bool} {n:Nat} {cs:List Value} {x:DataW H×List MemPlace} (h:DataW.trod enc Tryz.prog W base spare held n 52 cs=some x):
 ∃ a b c,cs[0]? =some (.int .i64 a)∧cs[1]? =some (.int .i64 b)∧cs[2]? =some (.int .i64 c)∧x.1= .agg [.lit (.int .i64 a),.lit (.int .i64 b),.lit (.int .i64 c)]:=by
 have hs:Tryz.prog.underlying 52=some (.struct (Tryz.prog.fieldsOf 52)):=by kernel_rfl
 obtain ⟨xs,n',_,hx,_,hxl,hf⟩:=DataW.trod_struct hs h;have hfz:(Tryz.prog.fieldsOf 52).size=3:=by kernel_rfl
 have iX:∀ i off,((Tryz.prog.fieldsOf 52)[i]?).map (fun f=>(f.type,f.offset))=some (3,off)→i<3→∃ k,cs[off]? =some (.int .i64 k)∧xs[i]? =some (.lit (.int .i64 k),[]):=by
  intro i off hfd hi;obtain ⟨f,h1,h2,h3⟩:=bC hfd;have hr:=hf i f h1;rw [h2,h3,wZ,List.getElem?_eq_getElem (by omega:i<xs.length)] at hr;obtain ⟨k,e1,e2,wk⟩:=DataW.trod_int Tryz.underlying3 hr;exact ⟨k,xA e1,by rw [List.getElem?_eq_getElem (by omega:i<xs.length),e2]⟩
 obtain ⟨a,a0,x0⟩:=iX 0 0 (by kernel_rfl) (by decide);obtain ⟨b,a1,x1⟩:=iX 1 1 (by kernel_rfl) (by decide);obtain ⟨c,a2,x2⟩:=iX 2 2 (by kernel_rfl) (by decide);refine ⟨a,b,c,a0,a1,a2,?_⟩;rw [hx];obtain ⟨y0,y1,y2,rfl⟩:=TL (l:=xs) (by omega)
 simp at x0 x1 x2
 subst x0 x1 x2;rfl
theorem JE {H:Type} {enc:TypeId×Value→H} {W:World} {base:Nat} {spare:Nat→Bool} {held:Bool} {n:Nat} {g o:Nat} {cs:List Value} {x:DataW H×List MemPlace} (hc:W.cells? base ⟨g,o,none⟩ 6=some cs) (h:DataW.trod enc Tryz.prog W base spare held n 210 cs=some x):∃ s,SpAt W g o s:=by
 have hs:Tryz.prog.underlying 210=some (.struct (Tryz.prog.fieldsOf 210)):=by kernel_rfl
 obtain ⟨xs,n',_,_,_,hxl,hf⟩:=DataW.trod_struct hs h;have hsz:(Tryz.prog.fieldsOf 210).size=2:=by kernel_rfl
 obtain ⟨_,_,hq⟩:=World.cells?_some hc
 have vers:∀ i off,((Tryz.prog.fieldsOf 210)[i]?).map (fun f=>(f.type,f.offset))=some (52,off)→i<2→∃ a b c,cs[off]? =some (.int .i64 a)∧cs[off+1]? =some (.int .i64 b)∧cs[off+2]? =some (.int .i64 c):=by
  intro i off hfd hi;obtain ⟨f,h1,h2,h3⟩:=bC hfd;have hr:=hf i f h1;rw [h2,h3,lN,List.getElem?_eq_getElem (by omega:i<xs.length)] at hr;obtain ⟨a,b,c,e0,e1,e2,_⟩:=lX hr
  simp at e0 e1 e2
  exact ⟨a,b,c,e0,e1,e2⟩
 obtain ⟨a,b,c,a0,a1,a2⟩:=vers 0 0 (by kernel_rfl) (by decide);obtain ⟨x,y,z,a3,a4,a5⟩:=vers 1 3 (by kernel_rfl) (by decide);have ad:∀ i,(⟨g,o,none⟩:Addr).add i=⟨g,o+i,none⟩:=fun i=>by unfold Addr.add;split<;>simp_all
 have q0:=hq 0 (by decide);have q1:=hq 1 (by decide);have q2:=hq 2 (by decide);have q3:=hq 3 (by decide);have q4:=hq 4 (by decide);have q5:=hq 5 (by decide);rw [ad] at q0 q1 q2 q3 q4 q5;exact ⟨⟨a,b,c,x,y,z⟩,by rw [←a0,←q0];rfl,by rw [←a1,←q1],by rw [←a2,←q2],by rw [←a3,←q3],by rw [←a4,←q4],by rw [←a5,←q5]⟩
theorem FD {P:Nat→Sp→Prop}:∀ {n:Nat},(∀ i,i<n→∃ s,P i s)→∃ L:List Sp,L.length=n∧∀ i (h:i<L.length),P i L[i]
 |0,_=>⟨[],rfl,fun i h=>by simp at h⟩
 |n+1,h=>by
  obtain ⟨L,hl,hP⟩:=FD (n:=n) fun i hi=>h i (by omega)
  obtain ⟨s,hs⟩:=h n (by omega);refine ⟨L++[s],by simp [hl],fun i hi=> ?_⟩
  by_cases hin:i<L.length
  · rw [List.getElem_append_left hin];exact hP i hin
  · have:i=n:=by simp at hi;omega
    subst this
    simpa [hl] using hs
theorem qT {H:Type} {enc:TypeId×Value→H} {W:World} {base fuel:Nat} {held:Bool} {a:Option Addr} {len cap:Nat} {x:DataW H×List MemPlace} (h:DataW.trod enc Tryz.prog W base (fun _=>true) held fuel 168 [.slice a len cap]=some x):
 ∃ L:List Sp,SpansC W (.slice a len cap) L:=by
 rcases Go.Deep.open_slice Tryz.underlying168 h with ⟨hcs,_⟩|⟨ad,l,c,m,n,D,Pl,hcs,_,hl,_,hm,hx,hel⟩
 · simp only [List.cons.injEq,Value.slice.injEq,and_true] at hcs
   obtain ⟨rfl,rfl,rfl⟩:=hcs;exact ⟨[],⟨_,_,rfl,Or.inl rfl⟩,_,_,_,rfl,Nat.le_refl _⟩
 · simp only [List.cons.injEq,Value.slice.injEq,and_true] at hcs
   obtain ⟨rfl,rfl,rfl⟩:=hcs
   rcases Nat.eq_zero_or_pos len with h0|h0
   · subst h0
     exact ⟨[],⟨_,_,rfl,Or.inl rfl⟩,_,_,_,rfl,hl⟩
   · have hmm:len≤m:=by rw [hm];simp;exact hl
     rw [QF] at hel;obtain ⟨g,off,spot⟩:=ad;obtain ⟨cs0,hc0,_⟩:=hel 0 (by omega);obtain ⟨_,hln,hq⟩:=World.cells?_some hc0;have hcell:=hq 0 (by decide);rw [List.getElem?_eq_getElem (by omega:0<cs0.length)] at hcell;have hspot:spot=none:=by simpa [Addr.add] using World.cell?_spot hcell
     subst hspot;have ad2:∀ o i,(⟨g,o,none⟩:Addr).add i=⟨g,o+i,none⟩:=fun o i=>by unfold Addr.add;split<;>simp_all
     obtain ⟨L,hL,hP⟩:=FD (P:=fun i s=>SpAt W g (off+i*6) s) (n:=len) fun i hi=>by
      obtain ⟨cs,hc,ht⟩:=hel i (by omega);rw [ad2] at hc;exact JE hc ht
     subst hL;refine ⟨L,⟨_,_,rfl,Or.inr ⟨g,off,rfl,?_,hP⟩⟩,_,_,_,rfl,hl⟩
     have:=cE hcell
     rw [ad2,ad2] at this;exact this
theorem yL {W:World} {nm:String} {a b c:Int} {r:List (String×DataW Unit)} {g:Nat} (hg:Tryz.prog.globalNamed nm=some g) (hty:(Tryz.prog.globals[g]?).map (·.type)=some 52)
 (h:laidMet Tryz.prog ((nm,.agg [.lit (.int .i64 a),.lit (.int .i64 b),.lit (.int .i64 c)])::r) W):
 W.cell? ⟨g,0,none⟩=some (.int .i64 a)∧W.cell? ⟨g,1,none⟩=some (.int .i64 b)∧W.cell? ⟨g,2,none⟩=some (.int .i64 c):=by
 obtain ⟨ps,⟨g',t',cs,fuel,p,q,hg',ht',hvar,hd,_,_⟩,_⟩:=h;obtain rfl:=Option.some.inj (hg.symm.trans hg');obtain rfl:=Option.some.inj (hty.symm.trans ht');obtain ⟨x,y,z,e0,e1,e2,hx⟩:=lX hd
 simp at hx
 obtain ⟨rfl,rfl,rfl⟩:=hx;have c0:=World.var?_cell hg hvar 0;have c1:=World.var?_cell hg hvar 1;have c2:=World.var?_cell hg hvar 2;exact ⟨by rw [c0];simpa using e0,by rw [c1];simpa using e1,by rw [c2];simpa using e2⟩
abbrev TP:List (String×DataW Unit):=[("math/bits.deBruijn32tab",Rows.laid_math_bits_deBruijn32tab),("math/bits.deBruijn64tab",Rows.laid_math_bits_deBruijn64tab),("internal/strconv.uint64pow10",Rows.laid_internal_strconv_uint64pow10),("unicode/utf8.acceptRanges",Rows.laid_unicode_utf8_acceptRanges),("strconv.ErrRange",Rows.laid_strconv_ErrRange),("strconv.ErrSyntax",Rows.laid_strconv_ErrSyntax),("halyard/span.first",Rows.laid_halyard_span_first),("halyard/span.last",Rows.laid_halyard_span_last),("unicode/utf8.first",Rows.laid_unicode_utf8_first)]
theorem FE {W:World} (hsh:W.ShapedOpen Tryz.prog) (h:laidMet Tryz.prog TP W):Env W∧FL W:=by
 have hT:=SC h;have h3:=laidMet.tail (laidMet.tail (laidMet.tail (laidMet.tail h)));have h4:=laidMet.tail h3;have h5:=laidMet.tail h4;have h6:=laidMet.tail h5;obtain ⟨a1,s1,hv1,_⟩:=laid_sentinel h3 (g:=9) (ti:=121) (te:=346) (ts:=9) (by kernel_rfl) (by kernel_rfl) Tryz.underlying121 FC Tryz.underlying344 Tryz.underlying346 rfl rfl Tryz.underlying9 (by kernel_rfl) (by kernel_rfl);obtain ⟨a2,s2,hv2,_⟩:=laid_sentinel h4 (g:=8) (ti:=121) (te:=346) (ts:=9) (by kernel_rfl) (by kernel_rfl) Tryz.underlying121 FC Tryz.underlying344 Tryz.underlying346 rfl rfl Tryz.underlying9 (by kernel_rfl) (by kernel_rfl);have c1:=World.var?_cell (g:=9) (by kernel_rfl) hv1 0;have c2:=World.var?_cell (g:=8) (by kernel_rfl) hv2 0;have f1:=yL (g:=1) (by kernel_rfl) (by kernel_rfl) h5;have f2:=yL (g:=2) (by kernel_rfl) (by kernel_rfl) h6
 exact ⟨{ max:=MO hsh,tab:=hT,syn:=⟨_,_,by simpa using c2⟩,rng:=⟨_,_,by simpa using c1⟩ },f1,f2,cE f1.1,cE f2.1⟩
theorem nL:Tryz.prog.cellsOf 9=1:=by kernel_rfl
theorem MP:Tryz.prog.cellsOf 168=1:=by kernel_rfl
theorem MQ:Tryz.prog.cellsOf 170=2:=by kernel_rfl
theorem kF:Tryz.prog.cellsOf 22=1:=by kernel_rfl
theorem gC {α:Type} {P:Nat→α→Prop}:∀ {n:Nat},(∀ i,i<n→∃ s,P i s)→∃ L:List α,L.length=n∧∀ i (h:i<L.length),P i L[i]
 |0,_=>⟨[],rfl,fun i h=>by simp at h⟩
 |n+1,h=>by
  obtain ⟨L,hl,hP⟩:=gC (n:=n) fun i hi=>h i (by omega)
  obtain ⟨s,hs⟩:=h n (by omega);refine ⟨L++[s],by simp [hl],fun i hi=> ?_⟩
  by_cases hin:i<L.length
  · rw [List.getElem_append_left hin];exact hP i hin
  · have:i=n:=by simp at hi;omega
    subst this
    simpa [hl] using hs
theorem fD {cs:List Value} {o:Nat} {v:Value} (h:(cs.drop o).take 1=[v]):cs[o]? =some v:=by
 have h0:((cs.drop o).take 1)[0]? =some v:=by rw [h];rfl
 simpa using h0
theorem MR {H:Type} {enc:TypeId×Value→H} {W:World} {base fuel:Nat} {held:Bool} {cs:List Value} {x:DataW H×List MemPlace} (h:DataW.trod enc Tryz.prog W base (fun _=>true) held fuel 168 cs=some x):
 ∃ v L,cs=[v]∧SpansC W v L∧L.length≤9223372036854775807:=by
 rcases Go.Deep.open_slice Tryz.underlying168 h with ⟨rfl,_⟩|⟨ad,l,c,m,n,D,Pl,rfl,_,hl,hm,_⟩
 · obtain ⟨L,hL⟩:=qT h
   obtain ⟨a',c',e,_⟩:=hL.1;cases L with
   |nil=>exact ⟨_,[],rfl,hL,by simp⟩
   |cons s L=>simp at e
 · obtain ⟨L,hL⟩:=qT h
   refine ⟨_,L,rfl,hL,?_⟩;obtain ⟨a',c',e,_⟩:=hL.1;simp only [Value.slice.injEq] at e;obtain ⟨_,rfl,_⟩:=e;unfold maxLen at hm;omega
theorem MT {H:Type} {enc:TypeId×Value→H} {W:World} {base:Nat} {held:Bool} {n:Nat} {g o:Nat} {cs:List Value} {x:DataW H×List MemPlace} (hc:W.cells? base ⟨g,o,none⟩ 2=some cs) (h:DataW.trod enc Tryz.prog W base (fun _=>true) held n 170 cs=some x):∃ d:Dp,(∃ u,DpIn W g o d u)∧d.nm.size≤9223372036854775807:=by
 have hs:Tryz.prog.underlying 170=some (.struct (Tryz.prog.fieldsOf 170)):=by kernel_rfl
 obtain ⟨xs,n',_,_,_,hxl,hf⟩:=DataW.trod_struct hs h;have hsz:(Tryz.prog.fieldsOf 170).size=2:=by kernel_rfl
 obtain ⟨_,hcl,hq⟩:=World.cells?_some hc;obtain ⟨f0,i0,t0,o0⟩:=bC (fs:=Tryz.prog.fieldsOf 170) (i:=0) (ty:=9) (off:=0) (by kernel_rfl);obtain ⟨f1,i1,t1,o1⟩:=bC (fs:=Tryz.prog.fieldsOf 170) (i:=1) (ty:=168) (off:=1) (by kernel_rfl);have r0:=hf 0 f0 i0;have r1:=hf 1 f1 i1;rw [t0,o0,nL,List.getElem?_eq_getElem (by omega:0<xs.length)] at r0;rw [t1,o1,MP,List.getElem?_eq_getElem (by omega:1<xs.length)] at r1;obtain ⟨s,e0,_,hs0⟩:=DataW.trod_string Tryz.underlying9 r0;obtain ⟨v,L,e1,hL,hz⟩:=MR r1;have q0:=hq 0 (by decide);have q1:=hq 1 (by decide);have ad:∀ i,(⟨g,o,none⟩:Addr).add i=⟨g,o+i,none⟩:=fun i=>by unfold Addr.add;split<;>simp_all
 rw [ad,fD e0] at q0;rw [ad,fD e1] at q1;exact ⟨⟨s,L⟩,⟨v,q0,q1,⟨hL,hz⟩,cE q1⟩,by unfold maxLen at hs0;exact hs0⟩
theorem oX {H:Type} {enc:TypeId×Value→H} {W:World} {base fuel:Nat} {held:Bool} {cs:List Value} {x:DataW H×List MemPlace} (h:DataW.trod enc Tryz.prog W base (fun _=>true) held fuel 22 cs=some x):
 ∃ v L,cs=[v]∧DepsAt W v L∧L.length≤9223372036854775807∧∀ d ∈ L,d.nm.size≤9223372036854775807:=by
 rcases Go.Deep.open_slice Tryz.underlying22 h with ⟨rfl,_⟩|⟨ad,len,cap,m,n,D,Pl,rfl,_,hl,hcm,hm,hx,hel⟩
 · exact ⟨_,[],rfl,⟨none,0,rfl,Nat.le_refl _,Or.inl rfl⟩,by simp,(fun d hd=>by cases hd)⟩
 · have hz:len≤9223372036854775807:=by unfold maxLen at hcm;omega
   rcases Nat.eq_zero_or_pos len with h0|h0
   · subst h0
     exact ⟨_,[],rfl,⟨_,_,rfl,Nat.zero_le _,Or.inl rfl⟩,by simp,(fun d hd=>by cases hd)⟩
   · have hmm:len≤m:=by rw [hm];simp;exact hl
     rw [MQ] at hel;obtain ⟨g,off,spot⟩:=ad;obtain ⟨cs0,hc0,_⟩:=hel 0 (by omega);obtain ⟨_,hln,hq⟩:=World.cells?_some hc0;have hcell:=hq 0 (by decide);rw [List.getElem?_eq_getElem (by omega:0<cs0.length)] at hcell;have hspot:spot=none:=by simpa [Addr.add] using World.cell?_spot hcell
     subst hspot;have ad2:∀ o i,(⟨g,o,none⟩:Addr).add i=⟨g,o+i,none⟩:=fun o i=>by unfold Addr.add;split<;>simp_all
     obtain ⟨L,hL,hP⟩:=gC (P:=fun i (d:Dp)=>(∃ u,DpIn W g (off+i*2) d u)∧d.nm.size≤9223372036854775807) (n:=len) fun i hi=>by
      obtain ⟨cs,hc,ht⟩:=hel i (by omega);rw [ad2] at hc;exact MT hc ht
     subst hL;refine ⟨_,L,rfl,⟨_,_,rfl,hl,Or.inr ⟨g,off,rfl,?_,fun i hi=>(hP i hi).1⟩⟩,hz,?_⟩
     · have:=cE hcell
       rw [ad2,ad2] at this;exact this
     · intro d hd
       obtain ⟨i,hi,rfl⟩:=List.getElem_of_mem hd;exact (hP i hi).2
theorem MU:Tryz.prog.cellsOf 54=7:=by kernel_rfl
theorem TQ {α:Type} {l:List α} (h:l.length=7):∃ a b c d e f g,l=[a,b,c,d,e,f,g]:=by
 match l,h with
 |[a,b,c,d,e,f,g],_=>exact ⟨a,b,c,d,e,f,g,rfl⟩
end Go.Proofs.YtlmpiohbmlddiaaGreatDoor
