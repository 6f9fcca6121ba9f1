/- Ta1, Ta2, Ta4, Td1, Env1, RowS, RwD, RwP: their declarations that are needed, laid in one text, remarks and blanks left out. -/
import Derived.Test.YtlmpiohbmlddiaaGreatDoorShelfO
import Derived.Test.YtlmpiohbmlddiaaGreatDoorMd08
namespace Go.Proofs.YtlmpiohbmlddiaaGreatDoor
open Go.RowKit
set_option maxRecDepth 100000
def eK:List UInt8:=cW.data.toList
theorem vZ:eK.length=9:=rfl
def aQ (r:List UInt8):List UInt8:=r.takeWhile fun b=>b != 47
theorem oS (r:List UInt8):r.take (aQ r).length=aQ r:=(List.prefix_iff_eq_take.1 (List.takeWhile_prefix _)).symm
theorem FF {a r:List UInt8} (h:(47:UInt8) ∉ a) (hr:r=[]∨∃ t,r=47::t):aQ (a++r)=a:=by
 unfold aQ;rw [List.takeWhile_append_of_pos (fun x hx=>by rw [bne_iff_ne];exact fun e=>h (e ▸ hx))]
 rcases hr with rfl|⟨t,rfl⟩<;>simp
def dH (r:List UInt8):Option (List ByteArray):=
 if r=[] then some []
 else if eK.isPrefixOf r=true∧Sc.aG (aQ (r.drop 9))=true then (dH ((r.drop 9).drop (aQ (r.drop 9)).length)).map fun L=>Sc.ba (aQ (r.drop 9))::L
 else none
termination_by r.length
decreasing_by
 have:0<r.length:=List.length_pos_iff.2 ‹_›
 simp only [List.length_drop];omega
theorem lO:dH []=some []:=by rw [dH];simp
theorem oT {r:List UInt8} (h0:r≠[]) (h:¬ (eK.isPrefixOf r=true∧Sc.aG (aQ (r.drop 9))=true)):dH r=none:=by rw [dH,if_neg h0,if_neg h]
theorem oU {r:List UInt8} (h0:r≠[]) (h1:eK.isPrefixOf r=true) (h2:Sc.aG (aQ (r.drop 9))=true):dH r=(dH ((r.drop 9).drop (aQ (r.drop 9)).length)).map fun L=>Sc.ba (aQ (r.drop 9))::L:=by rw [dH,if_neg h0,if_pos ⟨h1,h2⟩]
def aU (t:List UInt8):Option (List ByteArray):=if t=[47] then some [] else if t=[] then none else dH t
theorem oV {s:List UInt8} (h:Sc.aG s=true):(47:UInt8) ∉ s:=fun q=>by
 unfold Sc.aG at h;rw [Bool.and_eq_true,Bool.and_eq_true,List.all_eq_true] at h;exact absurd (h.1.2 _ q) (by decide)
theorem rX {s:List UInt8} (h:Sc.aG s=true):0<s.length:=by
 cases s with
 |nil=>cases h
 |cons _ _=>simp
theorem wA:∀ l:List UInt8,(Lib.indexByte l 47= -1∧aQ l=l)∨(Lib.indexByte l 47=((aQ l).length:Int)∧(aQ l).length<l.length)
 |[]=>Or.inl ⟨rfl,rfl⟩
 |b::l=>by
  by_cases hb:b=47
  · subst hb
    exact Or.inr ⟨rfl,by simp [aQ]⟩
  · have e:aQ (b::l)=b::aQ l:=by unfold aQ;rw [List.takeWhile_cons_of_pos (by simpa using hb)]
    have hb2:(b==47)=false:=by simpa using hb
    unfold Lib.indexByte;rw [e,hb2]
    rcases wA l with ⟨h1,h2⟩|⟨h1,h2⟩
    · exact Or.inl ⟨by rw [h1];rfl,by rw [h2]⟩
    · refine Or.inr ⟨?_,by simpa using h2⟩
      have:(Lib.indexByte l 47== -1)=false:=by rw [h1,beq_eq_false_iff_ne];omega
      rw [this,h1]
      simp
set_option maxHeartbeats 1600000 in
theorem JR (s:ByteArray) (hsz:s.size≤9223372036854775807) (w:World):Calls Tryz.prog 196 #[.string s,.string ⟨#[47]⟩] w fun e w'=>∃ x y,e= .returned (.tuple #[.string (Sc.ba (aQ s.data.toList)),.string x,.bool y])∧Below w.heap.size w w':=by
 have HI:=aB (Tryz.stringslite_Index_one s 47 w)
 rcases wA s.data.toList with ⟨e1,e2⟩|⟨e1,e2⟩
 · have HS:Hid (Sc.ba (aQ s.data.toList)=s):=by unfold Hid;rw [e2];rfl
   rw [e1] at HI;clear e1 e2;rw [HS.out]
   go_enter Tryz.func196,Tryz.ntmps196
   go_wp2_with (go_at_call 238;refine HI.out.mono ?_;rintro e w1 ⟨rfl,rfl⟩)
   go_ret3;exact ⟨_,_,rfl,Below.refl _ _⟩
 · rw [e1] at HI
   have HS:Hid (s.extract 0 (aQ s.data.toList).length=Sc.ba (aQ s.data.toList)):=by unfold Hid;rw [Sc.jI,List.drop_zero,oS]
   rw [aK] at e2;rw [←HS.out];clear e1 HS;generalize (aQ s.data.toList).length=i at*;have c1:(0:Int)≤ ↑i:=by omega
   have c2:(↑i:Int)≤ ↑s.size:=by omega
   have c3:(0:Int)≤ ↑i+1:=by omega
   have c4:(↑i+1:Int)≤ ↑s.size:=by omega
   have hw:IntKind.i64.wrap ((i:Int)+1)=(i:Int)+1:=by simpa using PZ (n:=i+1) (by omega)
   have c5:i≤s.size:=by omega
   have c6:i+1≤s.size:=by omega
   have HK:Hid (KeepP fun w1=>Below w.heap.size w w1):=aO w;have HO:Hid (Below w.heap.size w w):=Below.refl _ _
   go_enter Tryz.func196,Tryz.ntmps196
   go_wp2_with (go_at_call 238;refine HI.out.mono ?_;rintro e w1 ⟨rfl,rfl⟩)
   refine cI HK (by kernel_rfl) (by kernel_rfl) (by first|exact HO.out|exact HK.out.drew HO.out) ?_;intro C HIN HOUT;clear HO
   repeat
    (with_reducible refine wpQuiet_step (fun K hK=> ?_)
     go_simp
     first
      |(refine hK _ ?_;clear hK K)
      |(apply Exists.intro;refine ⟨fun w1 hC=> ?_,hK _ ?_⟩;(focus ((first|(exact rfl)|(obtain hb1:=HOUT.out w1 hC;clear hC;go_simp;first|done|exact rfl));done));clear hK K))
   refine wpQuiet_nil ?_;intro wn hC;have HO:=aB (HOUT.out _ hC);clear hC HIN HOUT C;obtain hb1:=HO.out
   go_wp2
   go_ret3;exact ⟨_,_,rfl,HO.out⟩
theorem CY (s:ByteArray) (hsz:s.size≤9223372036854775807) (w:World):Calls Tryz.prog 154 #[.string s,.string ⟨#[47]⟩] w fun e w'=>∃ x y,e= .returned (.tuple #[.string (Sc.ba (aQ s.data.toList)),.string x,.bool y])∧Below w.heap.size w w':=by
 have HC:=aB (JR s hsz w)
 go_enter Tryz.func154,Tryz.ntmps154
 go_wp2_with (go_at_call 196;refine HC.out.mono ?_;rintro e w1 ⟨x,y,rfl,ok⟩;have HB:=aB ok;clear ok)
 go_ret3;exact ⟨_,_,rfl,HB.out⟩
set_option maxHeartbeats 1600000 in
theorem FG (r:ByteArray) (hsz:r.size≤9223372036854775807) (hp:eK.isPrefixOf r.data.toList=true) (w:World):Calls Tryz.prog 108 #[.string r] w fun e w'=>e= .returned (.tuple #[.string (Sc.ba (aQ (r.data.toList.drop 9))),.bool (Sc.aG (aQ (r.data.toList.drop 9)))])∧Below w.heap.size w w':=by
 have HP:Hid (∀ w1,Calls Tryz.prog 153 #[.string r,.string ⟨#[47,109,111,100,117,108,101,115,47]⟩] w1 fun e w'=>e= .returned (.tuple #[.string ⟨(r.data.toList.drop 9).toArray⟩,.bool true])∧w'=w1):=fun w1=>by
  have h:=Tryz.strings_CutPrefix r ⟨#[47,109,111,100,117,108,101,115,47]⟩ w1;have e1:Lib.hasPrefix r.data.toList ([47,109,111,100,117,108,101,115,47]:List UInt8)=true:=hp;have e2:Lib.trimPrefix r.data.toList ([47,109,111,100,117,108,101,115,47]:List UInt8)=r.data.toList.drop 9:=by unfold Lib.trimPrefix;rw [if_pos e1];rfl
  simp only [e1,e2] at h;exact h
 have HC:Hid (∀ w1,Calls Tryz.prog 154 #[.string ⟨(r.data.toList.drop 9).toArray⟩,.string ⟨#[47]⟩] w1 fun e w'=>∃ x y,e= .returned (.tuple #[.string (Sc.ba (aQ (r.data.toList.drop 9))),.string x,.bool y])∧Below w1.heap.size w1 w'):=fun w1=>by
  have h:=CY ⟨(r.data.toList.drop 9).toArray⟩ (by show (r.data.toList.drop 9).toArray.size≤_;simp only [List.size_toArray,List.length_drop,aK];omega) w1
  simpa using h
 have HN:Hid (∀ w1,Calls Tryz.prog 53 #[.string (Sc.ba (aQ (r.data.toList.drop 9)))] w1 fun e w'=>e= .returned (.bool (Sc.aG (aQ (r.data.toList.drop 9))))∧w'=w1):=fun w1=>by
  have h:=Sc.cT (Sc.ba (aQ (r.data.toList.drop 9))) w1;rw [Sc.cR] at h;exact h
 generalize Sc.aG (aQ (r.data.toList.drop 9))=b at*;generalize Sc.ba (aQ (r.data.toList.drop 9))=n at*;generalize (⟨(r.data.toList.drop 9).toArray⟩:ByteArray)=q at*;clear hp
 go_enter Tryz.func108,Tryz.ntmps108
 go_wp2_with (first
  |(go_at_call 153;refine (HP.out _).mono ?_;rintro e w1 ⟨rfl,rfl⟩)
  |(go_at_call 154;refine (HC.out _).mono ?_;rintro e w2 ⟨x,y,rfl,ok⟩;have HB:=aB ok;clear ok)
  |(go_at_call 53;refine (HN.out _).mono ?_;rintro e w3 ⟨rfl,rfl⟩))
 all_goals go_ret2
 all_goals exact ⟨by cases b<;>rfl,HB.out⟩
set_option maxHeartbeats 1600000 in
theorem JS (r:ByteArray) (hsz:r.size≤9223372036854775807) (hp:eK.isPrefixOf r.data.toList=false) (w:World):Calls Tryz.prog 108 #[.string r] w fun e w'=>∃ x,e= .returned (.tuple #[.string x,.bool false])∧Below w.heap.size w w':=by
 have HP:Hid (∀ w1,Calls Tryz.prog 153 #[.string r,.string ⟨#[47,109,111,100,117,108,101,115,47]⟩] w1 fun e w'=>e= .returned (.tuple #[.string r,.bool false])∧w'=w1):=fun w1=>by
  have h:=Tryz.strings_CutPrefix r ⟨#[47,109,111,100,117,108,101,115,47]⟩ w1;have e1:Lib.hasPrefix r.data.toList ([47,109,111,100,117,108,101,115,47]:List UInt8)=false:=hp;have e2:Lib.trimPrefix r.data.toList ([47,109,111,100,117,108,101,115,47]:List UInt8)=r.data.toList:=by unfold Lib.trimPrefix;rw [if_neg (by rw [e1];simp)]
  simp only [e1,e2] at h;exact h
 have HC:Hid (∀ w1,Calls Tryz.prog 154 #[.string r,.string ⟨#[47]⟩] w1 fun e w'=>∃ x y,e= .returned (.tuple #[.string (Sc.ba (aQ r.data.toList)),.string x,.bool y])∧Below w1.heap.size w1 w'):=fun w1=>CY r hsz w1
 generalize Sc.ba (aQ r.data.toList)=n at*;clear hp
 go_enter Tryz.func108,Tryz.ntmps108
 go_wp2_with (first
  |(go_at_call 153;refine (HP.out _).mono ?_;rintro e w1 ⟨rfl,rfl⟩)
  |(go_at_call 154;refine (HC.out _).mono ?_;rintro e w2 ⟨x,y,rfl,ok⟩;have HB:=aB ok;clear ok))
 all_goals go_ret2
 all_goals exact ⟨_,rfl,HB.out⟩
def JT (t:List UInt8):Prop:=∀ L r,aI L=true→aJ L++r=t→L.length≤14073748835124
theorem AB {L:List ByteArray} {n:List UInt8} (h:aI L=true) (hn:Sc.aG n=true):aI (L++[Sc.ba n])=true:=by
 unfold aI at*;rw [List.all_append,h];simp only [List.all_cons,List.all_nil,Bool.and_true,Bool.true_and];rw [Sc.cR];exact hn
theorem FH (A B:List ByteArray):aJ (A++B)=aJ A++aJ B:=by simp [aJ]
theorem RH {r:List UInt8} (h:eK.isPrefixOf r=true):r=eK++r.drop 9:=by
 rw [List.isPrefixOf_iff_prefix,List.prefix_iff_eq_append] at h;exact h.symm
theorem oW {r:List UInt8} (h:eK.isPrefixOf r=true):r=eK++aQ (r.drop 9)++(r.drop 9).drop (aQ (r.drop 9)).length:=by
 have h1:(r.drop 9).take (aQ (r.drop 9)).length++(r.drop 9).drop (aQ (r.drop 9)).length=r.drop 9:=List.take_append_drop _ _;rw [oS] at h1;rw [List.append_assoc,h1];exact RH h
theorem wC {o:Option (List ByteArray)} (A:List ByteArray) (n:ByteArray):(o.map fun L=>n::L).map (fun L=>A++L)=o.map fun L=>(A++[n])++L:=by
 cases o<;>simp
theorem JU {r:ByteArray} (h:eK.isPrefixOf r.data.toList=true):9+(aQ (r.data.toList.drop 9)).length≤r.size:=by
 have h1:=congrArg List.length (oW h);rw [List.length_append,List.length_append,vZ,aK] at h1;omega
set_option maxHeartbeats 3200000 in
theorem wD (t:ByteArray) (ht:t.size≤9223372036854775807) (hf:JT t.data.toList) (h0:t.data.toList≠[47]) (w:World):
 Calls Tryz.prog 58 #[.string t] w fun e w'=>∃ v,e= .returned (.tuple #[v,.bool (aU t.data.toList).isSome])∧OwnPa w' w.heap.size v ((aU t.data.toList).getD [])∧Below w.heap.size w w':=by
 have HV:Hid (aU t.data.toList=if t.data.toList=[] then none else dH t.data.toList):=by unfold Hid aU;rw [if_neg h0]
 have HF:=aB hf;have HFY:Hid (∀ (r:ByteArray),r.size≤t.size→eK.isPrefixOf r.data.toList=true→∀ w1,Calls Tryz.prog 108 #[.string r] w1 fun e w'=>e= .returned (.tuple #[.string (Sc.ba (aQ (r.data.toList.drop 9))),.bool (Sc.aG (aQ (r.data.toList.drop 9)))])∧Below w1.heap.size w1 w'):=fun r hz hp w1=>FG r (by omega) hp w1
 have HFN:Hid (∀ (r:ByteArray),r.size≤t.size→eK.isPrefixOf r.data.toList=false→∀ w1,Calls Tryz.prog 108 #[.string r] w1 fun e w'=>∃ x,e= .returned (.tuple #[.string x,.bool false])∧Below w1.heap.size w1 w'):=fun r hz hp w1=>JS r (by omega) hp w1
 have HCL:Hid (∀ (s:ByteArray),s.size≤281474976710656→∀ w1,Calls Tryz.prog 109 #[.string s] w1 fun e w'=>e= .returned (.string s)∧Below w1.heap.size w1 w'):=fun s hs w1=>Sc.FE s hs w1
 have HON:Hid (OwnPa w w.heap.size (.slice none 0 0) []):=⟨rfl,Or.inl ⟨rfl,rfl⟩⟩;obtain ⟨i0,hi,hz0,hz1,hz2⟩:=Sc.bO Sc.iO;have hq0:(t.toList==[47])=false:=by rw [beq_eq_false_iff_ne,ByteArray.toList_eq];exact h0
 clear hf h0
 go_enter Tryz.func58,Tryz.ntmps58
 go_wp2_with fail
 go_loopw [4,5] (fun vp vr wr=>∃ (L:List ByteArray) (r:ByteArray),vr= .string r∧aI L=true∧aJ L++r.data.toList=t.data.toList∧dH t.data.toList=(dH r.data.toList).map (fun M=>L++M)∧OwnPa wr w.heap.size vp L∧Below w.heap.size w wr) (fun _ vr _=>match vr with| .string r=>r.size|_=>0)
 case atStart=>exact ⟨[],t,rfl,rfl,rfl,by simp,HON.out,Below.refl _ _⟩
 case round=>
  obtain ⟨L,r,rfl,hns,htx,hpt,hown,hb⟩:=hrel;have HN:=aB hns;have HT:=aB htx;have HP:=aB hpt;have HO:=aB hown;have HB:=aB hb;have HLN:=aB (HF.out L _ hns htx);obtain ⟨pa,pc,rfl,hpc⟩:=hown.form;clear hns htx hpt hown hb
  have hrt:r.size≤t.size:=by
   have e:=congrArg List.length HT.out;rw [List.length_append,aK,aK] at e;omega
  by_cases hr:r.data.toList=[]
  · have hre:(r.toList==[])=true:=by rw [ByteArray.toList_eq,hr];rfl
    have HPE:Hid (dH t.data.toList=some L):=by unfold Hid;rw [HP.out,hr,lO];simp
    have HLL:Hid (aJ L=t.data.toList):=by have e:=HT.out;rw [hr,List.append_nil] at e;exact e
    cases L with
    |nil=>
     have HR:Hid (aU t.data.toList=none):=by unfold Hid;rw [HV.out,if_pos (by rw [←HLL.out];rfl)]
     rw [List.length_nil];have hrs:r.toList=[]:=by rw [ByteArray.toList_eq,hr]
     clear hre
     go_wp2
     go_ret2;exact ⟨_,by rw [HR.out];rfl,by rw [HR.out];exact HO.out,HB.out⟩
    |cons n L=>
     have HR:Hid (aU t.data.toList=some (n::L)):=by unfold Hid;rw [HV.out,if_neg (by rw [←HLL.out];simp [aJ,cW]),HPE.out]
     have hp:(0:Int)<(((n::L).length:Nat):Int):=by rw [List.length_cons];omega
     have hrs:r.toList=[]:=by rw [ByteArray.toList_eq,hr]
     clear hre
     go_wp2
     go_ret2;exact ⟨_,by rw [HR.out];rfl,by rw [HR.out];exact HO.out,HB.out⟩
  · have hre:(r.toList==[])=false:=by rw [beq_eq_false_iff_ne,ByteArray.toList_eq];exact hr
    have hrn:r.toList≠[]:=by rw [ByteArray.toList_eq];exact hr
    have hre2:r.toList.isEmpty=false:=by rw [ByteArray.toList_eq];cases e:r.data.toList with|nil=>exact absurd e hr|cons _ _=>rfl
    have HNE:Hid (t.data.toList≠[]):=fun e=>by
     have q:=HT.out;rw [e] at q;exact hr (List.append_eq_nil_iff.1 q).2
    cases hp:eK.isPrefixOf r.data.toList
    · have HR:Hid (aU t.data.toList=none):=by unfold Hid;rw [HV.out,if_neg HNE.out,HP.out,oT hr (by rw [hp];simp)];rfl
      have HC:=aB (HFN.out r hrt hp);clear hp hr
      go_wp2_with (go_at_call 108;refine (HC.out _).mono ?_;rintro e w1 ⟨x,rfl,ok⟩;have HB1:=aB (aA HB.out ok);clear ok)
      go_ret2;exact ⟨_,by rw [HR.out];rfl,by rw [HR.out];exact ⟨rfl,Or.inl ⟨rfl,rfl⟩⟩,HB1.out⟩
    · have HC:=aB (HFY.out r hrt hp)
      cases hn:Sc.aG (aQ (r.data.toList.drop 9))
      · have HR:Hid (aU t.data.toList=none):=by unfold Hid;rw [HV.out,if_neg HNE.out,HP.out,oT hr (by rw [hn];simp)];rfl
        rw [hn] at HC;generalize Sc.ba (aQ (r.data.toList.drop 9))=nm at*;clear hp hr hn
        go_wp2_with (go_at_call 108;refine (HC.out _).mono ?_;rintro e w1 ⟨rfl,ok⟩;have HB1:=aB (aA HB.out ok);clear ok)
        go_ret2;exact ⟨_,by rw [HR.out];rfl,by rw [HR.out];exact ⟨rfl,Or.inl ⟨rfl,rfl⟩⟩,HB1.out⟩
      · rw [hn] at HC
        have hsz:=JU hp;have HNN:Hid (aI (L++[Sc.ba (aQ (r.data.toList.drop 9))])=true):=AB HN.out hn
        have HRL:Hid ((r.extract (9+(aQ (r.data.toList.drop 9)).length) r.size).data.toList=(r.data.toList.drop 9).drop (aQ (r.data.toList.drop 9)).length):=by
         unfold Hid;rw [Sc.jI,Sc.cR,←aK,List.take_length,List.drop_drop]
        have HTN:Hid (aJ (L++[Sc.ba (aQ (r.data.toList.drop 9))])++(r.extract (9+(aQ (r.data.toList.drop 9)).length) r.size).data.toList=t.data.toList):=by
         unfold Hid;rw [dY,HRL.out,Sc.cR,List.append_assoc,List.append_assoc,←HT.out]
         congr 1
         rw [←List.append_assoc];exact (oW hp).symm
        have HPN:Hid (dH t.data.toList=(dH (r.extract (9+(aQ (r.data.toList.drop 9)).length) r.size).data.toList).map (fun M=>(L++[Sc.ba (aQ (r.data.toList.drop 9))])++M)):=by
         unfold Hid;rw [HP.out,HRL.out,oU hr hp hn,wC]
        have hns:(Sc.ba (aQ (r.data.toList.drop 9))).size=(aQ (r.data.toList.drop 9)).length:=by show (aQ (r.data.toList.drop 9)).toArray.size=_;simp
        have hnb:(Sc.ba (aQ (r.data.toList.drop 9))).size≤16:=gA (by rw [Sc.cR];exact hn);have hnp:0<(aQ (r.data.toList.drop 9)).length:=rX hn;have HLM:=aB (HF.out _ _ HNN.out HTN.out);generalize (aQ (r.data.toList.drop 9)).length=m at*;generalize Sc.ba (aQ (r.data.toList.drop 9))=nm at*;have hll:L.length+1≤14073748835124:=by have e:=HLM.out;rw [List.length_append] at e;exact e
        have HCN:=aB (HCL.out nm (by omega));subst m;clear hp hr hn
        go_wp2_with (first
         |(go_at_call 108;refine (HC.out _).mono ?_;rintro e w1 ⟨rfl,ok⟩;have HO1:=aB (HO.out.below ok);have HB1:=aB (aA HB.out ok);clear ok)
         |(go_at_call 109;refine (HCN.out _).mono ?_;rintro e w2 ⟨rfl,ok⟩;have HO2:=aB (HO1.out.below ok);have HB2:=aB (aA HB1.out ok);clear ok)
         |(have _h:=HO2;at_builtin;refine wpList_append_own_wide _ rfl _ _ 50 rfl w.heap.size 9 i0 _ 1 16 Tryz.underlying50 hi hz0 hz1 hz2 rfl (by decide) _ _ _ rfl (HO2.out.alloc _) ⟨w2.heap.size,0,none⟩ 1 1 [.string nm] rfl rfl (cell_one_new _ _ _) (by simp [Value.oneCell']) (by unfold maxLen;omega) (by omega) (by have:=HB2.out.size;simp;omega) ?_;intro v3 w3 ho3 hg3 _;have HO3:Hid (OwnPa w3 w.heap.size v3 (L++[nm])):=(by have e:=ho3;unfold Hid OwnPa pcs;rw [List.map_append,List.length_append];exact e);have HB3:Hid (Below w.heap.size w w3):=(HB2.out.alloc (by have:=HB2.out.size;omega) _).grown hg3 (by have:=HB2.out.size;simp;omega) (fun k hk=>(World.ownsRow.lt HO2.out k hk).1);clear ho3 hg3))
        exact ⟨⟨L++[nm],_,rfl,HNN.out,HTN.out,HPN.out,HO3.out,HB3.out⟩,by simp;omega⟩
theorem jP (t:ByteArray) (ht:t.size≤9223372036854775807) (hf:JT t.data.toList) (w:World):
 Calls Tryz.prog 58 #[.string t] w fun e w'=>∃ v,e= .returned (.tuple #[v,.bool (aU t.data.toList).isSome])∧OwnPa w' w.heap.size v ((aU t.data.toList).getD [])∧Below w.heap.size w w':=by
 by_cases h0:t.data.toList=[47]
 · obtain rfl:t=⟨#[47]⟩:=aY (by rw [ByteArray.toList_eq,ByteArray.toList_eq,h0])
   have HR:Hid (aU (⟨#[47]⟩:ByteArray).data.toList=some []):=rfl;rw [HR.out];clear hf ht h0
   go_enter Tryz.func58,Tryz.ntmps58
   go_wp2
   go_ret2;exact ⟨_,rfl,⟨rfl,Or.inl ⟨rfl,rfl⟩⟩,Below.refl _ _⟩
 · exact wD t ht hf h0 w
set_option maxHeartbeats 3200000 in
theorem OC {L:List ByteArray} {v:Value} {w:World} (h:PathAt w v L) (hz:L.length≤4611686018427387904) (hlen:∀ k,k≤L.length→aI (L.take k)=true→(aJ (L.take k)).length≤219902325555200):
 Calls Tryz.prog 16 #[v] w fun e w'=>e= .returned (.string (aF L))∧Below w.heap.size w w':=by
 have HP:Hid (∀ w1,Below w.heap.size w w1→PathAt w1 v L):=fun w1 hb=>h.below hb
 obtain ⟨ad,cap,rfl⟩:=h.sl;have HLE:=aB hlen;clear h hlen
 by_cases h0:L=[]
 · subst h0
   have HR:Hid (aF []=⟨#[47]⟩):=rfl;rw [List.length_nil]
   go_enter Tryz.func16,Tryz.ntmps16
   go_wp2
   go_ret;exact ⟨by rw [HR.out];rfl,Below.refl _ _⟩
 · have hpos:0<L.length:=List.length_pos_iff.2 h0
   have HNO:Hid (aI L=false→aF L=⟨#[]⟩):=fun e=>by unfold aF;rw [if_neg h0,if_neg (by rw [e];simp)]
   have HYE:Hid (aI L=true→aF L=⟨(aJ L).toArray⟩):=fun e=>by unfold aF;rw [if_neg h0,if_pos e]
   have HNA:Hid (∀ s w1,Calls Tryz.prog 53 #[.string s] w1 fun e w'=>e= .returned (.bool (Sc.aG s.data.toList))∧w'=w1):=fun s w1=>Sc.cT s w1
   have HW:Hid (∀ l wz s,TW w l wz→s.size≤1000→l.length≤219902325555300→Calls Tryz.prog 54 #[.pointer (some ⟨w.heap.size,0,none⟩),.string s] wz fun e w'=>e= .returned (.tuple #[.int .i64 s.size,.nilIface])∧TW w (l++s.data.toList) w'):=fun l wz s h1 h2 h3=>by
    refine (rQ s h1.1 h2 (by omega) h1.2.size).mono ?_;rintro e w' ⟨rfl,g1,g2⟩;exact ⟨rfl,g1,h1.2.trans g2⟩
   have HST:Hid (∀ l wz,TW w l wz→Calls Tryz.prog 55 #[.pointer (some ⟨w.heap.size,0,none⟩)] wz fun e w2=>e= .returned (.string ⟨l.toArray⟩)∧Below w.heap.size wz w2):=fun l w' h=>Tryz.Builder_String_any _ _ l w' h.1 h.2.size
   have HT0:Hid (TW w [] (w.alloc (.cells #[.pointer none,.slice none 0 0] 118))):=TW.new w;have HL:Hid (∀ k,k≤L.length→aI (L.take k)=true→(aJ (L.take k)).length≤219902325555200):=HLE.out;have hne0:((L.length:Int)==0)=false:=by rw [beq_eq_false_iff_ne];omega
   go_enter Tryz.func16,Tryz.ntmps16
   go_wp2_with fail
   go_loopw [11] (fun i wr=>∃ k:Nat,k≤L.length∧i= .int .i64 k∧TW w (aJ (L.take k)) wr∧aI (L.take k)=true) (fun i _=>L.length - (intOf i).toNat)
   case atStart=>exact ⟨0,Nat.zero_le _,rfl,HT0.out,rfl⟩
   case round=>
    obtain ⟨k,hk,rfl,htw,hns⟩:=hrel;have HTW:=aB htw
    by_cases hlt:k<L.length
    · obtain ⟨ad',cap',e,_,hcs⟩:=HP.out wr htw.2
      cases e
      obtain ⟨g,o,rfl,hcz⟩:∃ g o,ad=some ⟨g,o,none⟩∧∀ i (h:i<L.length),StIn wr g (o+i) L[i]:=by
       rcases hcs with h|h
       · exact absurd h h0
       · exact h
      clear hcs;obtain ⟨c0,c1⟩:=hcz k hlt;have HLK:=aB (HL.out k hk hns)
      have HTS:Hid (aJ (L.take (k+1))=aJ (L.take k)++cW.data.toList++L[k].data.toList):=by
       unfold Hid;rw [List.take_succ_eq_append_getElem hlt,dY]
      have HNT:Hid (Sc.aG L[k].data.toList=true→aI (L.take (k+1))=true):=fun e=>by rw [oM hlt,hns,e];rfl
      have HNB:Hid (Sc.aG L[k].data.toList=false→aI L=false):=fun e=>rS hlt e
      clear hcz htw hns;have HNM:=aB (HNA.out L[k]);generalize L[k]=s at*;cases hn:Sc.aG s.data.toList
      · have HR:=aB (HNO.out (HNB.out hn))
        rw [hn] at HNM;clear HNT HNB HNO HYE
        go_wp2_with (go_at_call 53;refine (HNM.out _).mono ?_;rintro e w1 ⟨rfl,hw1⟩;subst w1)
        go_ret;exact ⟨by rw [HR.out];rfl,HTW.out.2⟩
      · have HR:=aB (HNT.out hn)
        rw [hn] at HNM;have hs16:s.size≤16:=gA hn;have hms:cW.size=9:=rfl;clear HNT HNB HNO HYE;have t1:True:=trivial
        go_wp2_with (first
         |(go_at_call 53;refine (HNM.out _).mono ?_;rintro e w1 ⟨rfl,hw1⟩;subst w1)
         |(have _t:=t1;go_at_call 54;refine (HW.out (aJ (L.take k)) _ cW HTW.out (by omega) (by have:=HLK.out;omega)).mono ?_;rintro e w2 ⟨rfl,ok⟩;have HT2:=aB ok;clear ok t1)
         |(have _t:=HT2;go_at_call 54;refine (HW.out (aJ (L.take k)++cW.data.toList) _ s HT2.out (by omega) (by have:=HLK.out;rw [List.length_append,aK];omega)).mono ?_;rintro e w3 ⟨rfl,ok⟩;have HT3:=aB ok;clear ok))
        exact ⟨⟨k+1,by omega,by go_num,by rw [HTS.out];exact HT3.out,HR.out⟩,by simp [intOf];omega⟩
    · obtain rfl:k=L.length:=by omega
      have HTE:Hid (TW w (aJ L) wr):=by have e:=HTW.out;rw [List.take_length] at e;exact e
      have HR:Hid (aF L=⟨(aJ L).toArray⟩):=HYE.out (by rw [List.take_length] at hns;exact hns);clear htw hns HTW
      go_wp2_with (go_at_call 55;refine (HST.out _ _ HTE.out).mono ?_;rintro e w6 ⟨rfl,ok⟩;have HB6:=aB (HTE.out.2.trans ok);clear ok)
      go_ret;exact ⟨by rw [HR.out];rfl,HB6.out⟩
theorem gR {s:ByteArray} {L:List ByteArray}:aI (s::L)=true↔Sc.aG s.data.toList=true∧aI L=true:=by
 unfold aI;rw [List.all_cons,Bool.and_eq_true]
theorem bX (s:ByteArray) (L:List ByteArray):aJ (s::L)=eK++(s.data.toList++aJ L):=by
 unfold aJ eK;rw [List.flatMap_cons,List.append_assoc]
theorem AD (L:List ByteArray):aJ L=[]∨∃ t,aJ L=47::t:=by
 cases L with
 |nil=>exact Or.inl rfl
 |cons s L=>exact Or.inr ⟨_,bX s L⟩
theorem OD (r:List UInt8):eK.isPrefixOf (eK++r)=true:=by rw [List.isPrefixOf_iff_prefix];exact List.prefix_append _ _
theorem wE (r:List UInt8):(eK++r).drop 9=r:=List.drop_left (l₁:=eK)
theorem mJ:∀ {L:List ByteArray},aI L=true→dH (aJ L)=some L
 |[],_=>lO
 |s::L,h=>by
  obtain ⟨h1,h2⟩:=gR.1 h;have hh:aQ (s.data.toList++aJ L)=s.data.toList:=FF (oV h1) (AD L);have e:=oU (r:=aJ (s::L)) (by rw [bX];simp [eK,cW]) (by rw [bX];exact OD _) (by rw [bX,wE,hh];exact h1);rw [e,bX,wE,hh,List.drop_left,mJ h2];rfl
theorem iJ:∀ (n:Nat) {r:List UInt8} {L:List ByteArray},r.length≤n→dH r=some L→aJ L=r∧aI L=true
 |n,[],L,_,h=>by
  rw [lO] at h;cases h;exact ⟨rfl,rfl⟩
 |0,_::_,_,hn,_=>by simp at hn
 |n+1,b::r,L,hn,h=>by
  by_cases hq:eK.isPrefixOf (b::r)=true∧Sc.aG (aQ ((b::r).drop 9))=true
  · rw [oU (by simp) hq.1 hq.2] at h
    cases hp:dH (((b::r).drop 9).drop (aQ ((b::r).drop 9)).length) with
    |none=>rw [hp] at h;cases h
    |some M=>
     rw [hp] at h;cases h;have ih:=iJ n (by simp only [List.length_drop,List.length_cons] at hn ⊢;omega) hp;refine ⟨?_,gR.2 ⟨by rw [Sc.cR];exact hq.2,ih.2⟩⟩;rw [bX,ih.1,Sc.cR,←List.append_assoc];exact (oW hq.1).symm
  · rw [oT (by simp) hq] at h
    cases h
theorem jQ {L:List ByteArray} (h:L=[]∨aI L=true):aU (aF L).data.toList=some L:=by
 rcases Classical.em (L=[]) with rfl|h0
 · rfl
 · have hn:aI L=true:=h.resolve_left h0
   have e:(aF L).data.toList=aJ L:=by unfold aF;rw [if_neg h0,if_pos hn]
   rw [e];cases L with
   |nil=>exact absurd rfl h0
   |cons s L=>
    unfold aU;rw [if_neg (by rw [bX];simp [eK,cW]),if_neg (by rw [bX];simp [eK,cW])];exact mJ hn
theorem jR {t:ByteArray} {L:List ByteArray} (h:aU t.data.toList=some L):aF L=t:=by
 unfold aU at h
 by_cases h1:t.data.toList=[47]
 · rw [if_pos h1] at h
   cases h;exact aY (by rw [ByteArray.toList_eq,ByteArray.toList_eq,h1];rfl)
 · rw [if_neg h1] at h
   by_cases h2:t.data.toList=[]
   · rw [if_pos h2] at h
     cases h
   · rw [if_neg h2] at h
     obtain ⟨e1,e2⟩:=iJ _ (Nat.le_refl _) h;have h0:L≠[]:=fun e=>h2 (by rw [←e1,e];rfl)
     unfold aF;rw [if_neg h0,if_pos e2];exact aY (by rw [ByteArray.toList_eq,ByteArray.toList_eq,←e1])
theorem mK {t:ByteArray} {L:List ByteArray} (h:aU t.data.toList=some L):L=[]∨aI L=true:=by
 unfold aU at h
 split at h
 · cases h;exact Or.inl rfl
 · split at h
   · cases h
   · exact Or.inr (iJ _ (Nat.le_refl _) h).2
theorem dR:∀ {L:List ByteArray},aI L=true→10*L.length≤(aJ L).length
 |[],_=>by simp
 |s::L,h=>by
  obtain ⟨h1,h2⟩:=gR.1 h
  have:=dR h2
  have:=rX h1
  rw [bX,List.length_append,List.length_append,vZ,List.length_cons];omega
theorem wF {t:ByteArray} (h:t.size≤140737488351232):JT t.data.toList:=fun L r hn e=>by
 have h1:=congrArg List.length e;have h2:=dR hn;rw [List.length_append,aK] at h1;omega
theorem eB:∀ {L:List ByteArray},aI L=true→(aJ L).count 47=2*L.length
 |[],_=>by simp [aJ]
 |s::L,h=>by
  obtain ⟨h1,h2⟩:=gR.1 h;have e1:eK.count 47=2:=by decide
  have e2:s.data.toList.count 47=0:=List.count_eq_zero.2 (oV h1);rw [bX,List.count_append,List.count_append,e1,e2,eB h2,List.length_cons];omega
theorem fC (L:List ByteArray) (k:Nat):(aJ (L.take k)).length≤(aJ L).length:=by
 have e:aJ L=aJ (L.take k)++aJ (L.drop k):=by rw [←FH,List.take_append_drop]
 rw [e,List.length_append];omega
theorem JV {t:ByteArray} (h:(aU t.data.toList).isSome=true) {k:Nat}:(aJ (((aU t.data.toList).getD []).take k)).length≤t.size:=by
 cases e:aU t.data.toList with
 |none=>rw [e] at h;cases h
 |some L=>
  show (aJ (L.take k)).length≤_;have h1:=fC L k;have h2:=jR e
  rcases mK e with rfl|hn
  · simp [aJ]
  · rcases Classical.em (L=[]) with rfl|hL
    · simp [aJ]
    · have:t.data.toList=aJ L:=by rw [←h2];unfold aF;rw [if_neg hL,if_pos hn]
      rw [←aK,this];exact h1
end Go.Proofs.YtlmpiohbmlddiaaGreatDoor
namespace Go.Proofs.YtlmpiohbmlddiaaGreatDoor
open Go.ChangeShapes Go.WideShapes Go.ChangeAt Go.RowKit
set_option maxRecDepth 100000
theorem SV: "*" ++ "errors.errorString" = "*errors.errorString" :=by decide
theorem CZ (u:TypeId) (h:Tryz.prog.typeName? 3 u=some "*errors.errorString"):u=344:=
 typeName_ptr_named (nm:= "errors.errorString") (by rw [SV];kernel_rfl) (by kernel_rfl) (by decide) u (by rw [SV];exact h)
theorem JW {W:World} (h:W.ShapedOpen Tryz.prog):∃ m,W.cell? ⟨0,0,none⟩=some (.int .i64 m):=
 cell_of_shapedOpen_int (t:=3) (zero:= #[.int .i64 0]) h (by decide+kernel) (by kernel_rfl) rfl (by kernel_rfl) (by kernel_rfl) Tryz.underlying3
theorem OE:Tryz.prog.cellsOf 210=6:=by kernel_rfl
theorem kP {H:Type} {enc:TypeId×Value→H} {W:World} {base:Nat} {spare:Nat→Bool} {held:Bool} {n:Nat} {cs:List Value} {x:DataW H×List MemPlace} (h:DataW.trod enc Tryz.prog W base spare held n 52 cs=some x):
 ∃ a b c,cs[0]? =some (.int .i64 a)∧cs[1]? =some (.int .i64 b)∧cs[2]? =some (.int .i64 c)∧x.1= .agg [.lit (.int .i64 a),.lit (.int .i64 b),.lit (.int .i64 c)]:=by
 have hs:Tryz.prog.underlying 52=some (.struct (Tryz.prog.fieldsOf 52)):=by kernel_rfl
 obtain ⟨xs,n',_,hx,_,hxl,hf⟩:=DataW.trod_struct hs h;have hfz:(Tryz.prog.fieldsOf 52).size=3:=by kernel_rfl
 have gS:∀ i off,((Tryz.prog.fieldsOf 52)[i]?).map (fun f=>(f.type,f.offset))=some (3,off)→i<3→∃ k,cs[off]? =some (.int .i64 k)∧xs[i]? =some (.lit (.int .i64 k),[]):=by
  intro i off hfd hi;obtain ⟨f,h1,h2,h3⟩:=aT hfd;have hr:=hf i f h1;rw [h2,h3,uX,List.getElem?_eq_getElem (by omega:i<xs.length)] at hr;obtain ⟨k,e1,e2,wk⟩:=DataW.trod_int Tryz.underlying3 hr;exact ⟨k,uY e1,by rw [List.getElem?_eq_getElem (by omega:i<xs.length),e2]⟩
 obtain ⟨a,a0,x0⟩:=gS 0 0 (by kernel_rfl) (by decide);obtain ⟨b,a1,x1⟩:=gS 1 1 (by kernel_rfl) (by decide);obtain ⟨c,a2,x2⟩:=gS 2 2 (by kernel_rfl) (by decide);refine ⟨a,b,c,a0,a1,a2,?_⟩;rw [hx];obtain ⟨y0,y1,y2,rfl⟩:=SO (l:=xs) (by omega)
 simp at x0 x1 x2
 subst x0 x1 x2;rfl
theorem FI {H:Type} {enc:TypeId×Value→H} {W:World} {base:Nat} {spare:Nat→Bool} {held:Bool} {n:Nat} {g o:Nat} {cs:List Value} {x:DataW H×List MemPlace} (hc:W.cells? base ⟨g,o,none⟩ 6=some cs) (h:DataW.trod enc Tryz.prog W base spare held n 210 cs=some x):∃ s,SpAt W g o s:=by
 have hs:Tryz.prog.underlying 210=some (.struct (Tryz.prog.fieldsOf 210)):=by kernel_rfl
 obtain ⟨xs,n',_,_,_,hxl,hf⟩:=DataW.trod_struct hs h;have hsz:(Tryz.prog.fieldsOf 210).size=2:=by kernel_rfl
 obtain ⟨_,_,hq⟩:=World.cells?_some hc
 have vers:∀ i off,((Tryz.prog.fieldsOf 210)[i]?).map (fun f=>(f.type,f.offset))=some (52,off)→i<2→∃ a b c,cs[off]? =some (.int .i64 a)∧cs[off+1]? =some (.int .i64 b)∧cs[off+2]? =some (.int .i64 c):=by
  intro i off hfd hi;obtain ⟨f,h1,h2,h3⟩:=aT hfd;have hr:=hf i f h1;rw [h2,h3,kG,List.getElem?_eq_getElem (by omega:i<xs.length)] at hr;obtain ⟨a,b,c,e0,e1,e2,_⟩:=kP hr
  simp at e0 e1 e2
  exact ⟨a,b,c,e0,e1,e2⟩
 obtain ⟨a,b,c,a0,a1,a2⟩:=vers 0 0 (by kernel_rfl) (by decide);obtain ⟨x,y,z,a3,a4,a5⟩:=vers 1 3 (by kernel_rfl) (by decide);have ad:∀ i,(⟨g,o,none⟩:Addr).add i=⟨g,o+i,none⟩:=fun i=>by unfold Addr.add;split<;>simp_all
 have q0:=hq 0 (by decide);have q1:=hq 1 (by decide);have q2:=hq 2 (by decide);have q3:=hq 3 (by decide);have q4:=hq 4 (by decide);have q5:=hq 5 (by decide);rw [ad] at q0 q1 q2 q3 q4 q5;exact ⟨⟨a,b,c,x,y,z⟩,by rw [←a0,←q0];rfl,by rw [←a1,←q1],by rw [←a2,←q2],by rw [←a3,←q3],by rw [←a4,←q4],by rw [←a5,←q5]⟩
theorem DA {P:Nat→Sp→Prop}:∀ {n:Nat},(∀ i,i<n→∃ s,P i s)→∃ L:List Sp,L.length=n∧∀ i (h:i<L.length),P i L[i]
 |0,_=>⟨[],rfl,fun i h=>by simp at h⟩
 |n+1,h=>by
  obtain ⟨L,hl,hP⟩:=DA (n:=n) fun i hi=>h i (by omega)
  obtain ⟨s,hs⟩:=h n (by omega);refine ⟨L++[s],by simp [hl],fun i hi=> ?_⟩
  by_cases hin:i<L.length
  · rw [List.getElem_append_left hin];exact hP i hin
  · have:i=n:=by simp at hi;omega
    subst this
    simpa [hl] using hs
theorem oX {H:Type} {enc:TypeId×Value→H} {W:World} {base fuel:Nat} {held:Bool} {a:Option Addr} {len cap:Nat} {x:DataW H×List MemPlace} (h:DataW.trod enc Tryz.prog W base (fun _=>true) held fuel 168 [.slice a len cap]=some x):
 ∃ L:List Sp,SpansC W (.slice a len cap) L:=by
 rcases Go.Deep.open_slice Tryz.underlying168 h with ⟨hcs,_⟩|⟨ad,l,c,m,n,D,Pl,hcs,_,hl,_,hm,hx,hel⟩
 · simp only [List.cons.injEq,Value.slice.injEq,and_true] at hcs
   obtain ⟨rfl,rfl,rfl⟩:=hcs;exact ⟨[],⟨_,_,rfl,Or.inl rfl⟩,_,_,_,rfl,Nat.le_refl _⟩
 · simp only [List.cons.injEq,Value.slice.injEq,and_true] at hcs
   obtain ⟨rfl,rfl,rfl⟩:=hcs
   rcases Nat.eq_zero_or_pos len with h0|h0
   · subst h0
     exact ⟨[],⟨_,_,rfl,Or.inl rfl⟩,_,_,_,rfl,hl⟩
   · have hmm:len≤m:=by rw [hm];simp;exact hl
     rw [OE] at hel;obtain ⟨g,off,spot⟩:=ad;obtain ⟨cs0,hc0,_⟩:=hel 0 (by omega);obtain ⟨_,hln,hq⟩:=World.cells?_some hc0;have hcell:=hq 0 (by decide);rw [List.getElem?_eq_getElem (by omega:0<cs0.length)] at hcell;have hspot:spot=none:=by simpa [Addr.add] using World.cell?_spot hcell
     subst hspot;have ad2:∀ o i,(⟨g,o,none⟩:Addr).add i=⟨g,o+i,none⟩:=fun o i=>by unfold Addr.add;split<;>simp_all
     obtain ⟨L,hL,hP⟩:=DA (P:=fun i s=>SpAt W g (off+i*6) s) (n:=len) fun i hi=>by
      obtain ⟨cs,hc,ht⟩:=hel i (by omega);rw [ad2] at hc;exact FI hc ht
     subst hL;refine ⟨L,⟨_,_,rfl,Or.inr ⟨g,off,rfl,?_,hP⟩⟩,_,_,_,rfl,hl⟩
     have:=bZ hcell
     rw [ad2,ad2] at this;exact this
theorem wG {W:World} {nm:String} {a b c:Int} {r:List (String×DataW Unit)} {g:Nat} (hg:Tryz.prog.globalNamed nm=some g) (hty:(Tryz.prog.globals[g]?).map (·.type)=some 52)
 (h:laidMet Tryz.prog ((nm,.agg [.lit (.int .i64 a),.lit (.int .i64 b),.lit (.int .i64 c)])::r) W):
 W.cell? ⟨g,0,none⟩=some (.int .i64 a)∧W.cell? ⟨g,1,none⟩=some (.int .i64 b)∧W.cell? ⟨g,2,none⟩=some (.int .i64 c):=by
 obtain ⟨ps,⟨g',t',cs,fuel,p,q,hg',ht',hvar,hd,_,_⟩,_⟩:=h;obtain rfl:=Option.some.inj (hg.symm.trans hg');obtain rfl:=Option.some.inj (hty.symm.trans ht');obtain ⟨x,y,z,e0,e1,e2,hx⟩:=kP hd
 simp at hx
 obtain ⟨rfl,rfl,rfl⟩:=hx;have c0:=World.var?_cell hg hvar 0;have c1:=World.var?_cell hg hvar 1;have c2:=World.var?_cell hg hvar 2;exact ⟨by rw [c0];simpa using e0,by rw [c1];simpa using e1,by rw [c2];simpa using e2⟩
abbrev SW:List (String×DataW Unit):=[("math/bits.deBruijn32tab",Rows.laid_math_bits_deBruijn32tab),("math/bits.deBruijn64tab",Rows.laid_math_bits_deBruijn64tab),("internal/strconv.uint64pow10",Rows.laid_internal_strconv_uint64pow10),("unicode/utf8.acceptRanges",Rows.laid_unicode_utf8_acceptRanges),("strconv.ErrRange",Rows.laid_strconv_ErrRange),("strconv.ErrSyntax",Rows.laid_strconv_ErrSyntax),("halyard/span.first",Rows.laid_halyard_span_first),("halyard/span.last",Rows.laid_halyard_span_last),("unicode/utf8.first",Rows.laid_unicode_utf8_first)]
theorem DB {W:World} (hsh:W.ShapedOpen Tryz.prog) (h:laidMet Tryz.prog SW W):Env W∧FL W:=by
 have hT:=QS h;have h3:=laidMet.tail (laidMet.tail (laidMet.tail (laidMet.tail h)));have h4:=laidMet.tail h3;have h5:=laidMet.tail h4;have h6:=laidMet.tail h5;obtain ⟨a1,s1,hv1,_⟩:=laid_sentinel h3 (g:=9) (ti:=121) (te:=346) (ts:=9) (by kernel_rfl) (by kernel_rfl) Tryz.underlying121 CZ Tryz.underlying344 Tryz.underlying346 rfl rfl Tryz.underlying9 (by kernel_rfl) (by kernel_rfl);obtain ⟨a2,s2,hv2,_⟩:=laid_sentinel h4 (g:=8) (ti:=121) (te:=346) (ts:=9) (by kernel_rfl) (by kernel_rfl) Tryz.underlying121 CZ Tryz.underlying344 Tryz.underlying346 rfl rfl Tryz.underlying9 (by kernel_rfl) (by kernel_rfl);have c1:=World.var?_cell (g:=9) (by kernel_rfl) hv1 0;have c2:=World.var?_cell (g:=8) (by kernel_rfl) hv2 0;have f1:=wG (g:=1) (by kernel_rfl) (by kernel_rfl) h5;have f2:=wG (g:=2) (by kernel_rfl) (by kernel_rfl) h6
 exact ⟨{ max:=JW hsh,tab:=hT,syn:=⟨_,_,by simpa using c2⟩,rng:=⟨_,_,by simpa using c1⟩ },f1,f2,bZ f1.1,bZ f2.1⟩
theorem lP:Tryz.prog.cellsOf 9=1:=by kernel_rfl
theorem JX:Tryz.prog.cellsOf 168=1:=by kernel_rfl
theorem JY:Tryz.prog.cellsOf 170=2:=by kernel_rfl
theorem iU:Tryz.prog.cellsOf 22=1:=by kernel_rfl
theorem fD {α:Type} {P:Nat→α→Prop}:∀ {n:Nat},(∀ i,i<n→∃ s,P i s)→∃ L:List α,L.length=n∧∀ i (h:i<L.length),P i L[i]
 |0,_=>⟨[],rfl,fun i h=>by simp at h⟩
 |n+1,h=>by
  obtain ⟨L,hl,hP⟩:=fD (n:=n) fun i hi=>h i (by omega)
  obtain ⟨s,hs⟩:=h n (by omega);refine ⟨L++[s],by simp [hl],fun i hi=> ?_⟩
  by_cases hin:i<L.length
  · rw [List.getElem_append_left hin];exact hP i hin
  · have:i=n:=by simp at hi;omega
    subst this
    simpa [hl] using hs
theorem eC {cs:List Value} {o:Nat} {v:Value} (h:(cs.drop o).take 1=[v]):cs[o]? =some v:=by
 have h0:((cs.drop o).take 1)[0]? =some v:=by rw [h];rfl
 simpa using h0
theorem JZ {H:Type} {enc:TypeId×Value→H} {W:World} {base fuel:Nat} {held:Bool} {cs:List Value} {x:DataW H×List MemPlace} (h:DataW.trod enc Tryz.prog W base (fun _=>true) held fuel 168 cs=some x):
 ∃ v L,cs=[v]∧SpansC W v L∧L.length≤9223372036854775807:=by
 rcases Go.Deep.open_slice Tryz.underlying168 h with ⟨rfl,_⟩|⟨ad,l,c,m,n,D,Pl,rfl,_,hl,hm,_⟩
 · obtain ⟨L,hL⟩:=oX h
   obtain ⟨a',c',e,_⟩:=hL.1;cases L with
   |nil=>exact ⟨_,[],rfl,hL,by simp⟩
   |cons s L=>simp at e
 · obtain ⟨L,hL⟩:=oX h
   refine ⟨_,L,rfl,hL,?_⟩;obtain ⟨a',c',e,_⟩:=hL.1;simp only [Value.slice.injEq] at e;obtain ⟨_,rfl,_⟩:=e;unfold maxLen at hm;omega
theorem KA {H:Type} {enc:TypeId×Value→H} {W:World} {base:Nat} {held:Bool} {n:Nat} {g o:Nat} {cs:List Value} {x:DataW H×List MemPlace} (hc:W.cells? base ⟨g,o,none⟩ 2=some cs) (h:DataW.trod enc Tryz.prog W base (fun _=>true) held n 170 cs=some x):∃ d:Dp,(∃ u,DpIn W g o d u)∧d.nm.size≤9223372036854775807:=by
 have hs:Tryz.prog.underlying 170=some (.struct (Tryz.prog.fieldsOf 170)):=by kernel_rfl
 obtain ⟨xs,n',_,_,_,hxl,hf⟩:=DataW.trod_struct hs h;have hsz:(Tryz.prog.fieldsOf 170).size=2:=by kernel_rfl
 obtain ⟨_,hcl,hq⟩:=World.cells?_some hc;obtain ⟨f0,i0,t0,o0⟩:=aT (fs:=Tryz.prog.fieldsOf 170) (i:=0) (ty:=9) (off:=0) (by kernel_rfl);obtain ⟨f1,i1,t1,o1⟩:=aT (fs:=Tryz.prog.fieldsOf 170) (i:=1) (ty:=168) (off:=1) (by kernel_rfl);have r0:=hf 0 f0 i0;have r1:=hf 1 f1 i1;rw [t0,o0,lP,List.getElem?_eq_getElem (by omega:0<xs.length)] at r0;rw [t1,o1,JX,List.getElem?_eq_getElem (by omega:1<xs.length)] at r1;obtain ⟨s,e0,_,hs0⟩:=DataW.trod_string Tryz.underlying9 r0;obtain ⟨v,L,e1,hL,hz⟩:=JZ r1;have q0:=hq 0 (by decide);have q1:=hq 1 (by decide);have ad:∀ i,(⟨g,o,none⟩:Addr).add i=⟨g,o+i,none⟩:=fun i=>by unfold Addr.add;split<;>simp_all
 rw [ad,eC e0] at q0;rw [ad,eC e1] at q1;exact ⟨⟨s,L⟩,⟨v,q0,q1,⟨hL,hz⟩,bZ q1⟩,by unfold maxLen at hs0;exact hs0⟩
theorem nF {H:Type} {enc:TypeId×Value→H} {W:World} {base fuel:Nat} {held:Bool} {cs:List Value} {x:DataW H×List MemPlace} (h:DataW.trod enc Tryz.prog W base (fun _=>true) held fuel 22 cs=some x):
 ∃ v L,cs=[v]∧DepsAt W v L∧L.length≤9223372036854775807∧∀ d ∈ L,d.nm.size≤9223372036854775807:=by
 rcases Go.Deep.open_slice Tryz.underlying22 h with ⟨rfl,_⟩|⟨ad,len,cap,m,n,D,Pl,rfl,_,hl,hcm,hm,hx,hel⟩
 · exact ⟨_,[],rfl,⟨none,0,rfl,Nat.le_refl _,Or.inl rfl⟩,by simp,(fun d hd=>by cases hd)⟩
 · have hz:len≤9223372036854775807:=by unfold maxLen at hcm;omega
   rcases Nat.eq_zero_or_pos len with h0|h0
   · subst h0
     exact ⟨_,[],rfl,⟨_,_,rfl,Nat.zero_le _,Or.inl rfl⟩,by simp,(fun d hd=>by cases hd)⟩
   · have hmm:len≤m:=by rw [hm];simp;exact hl
     rw [JY] at hel;obtain ⟨g,off,spot⟩:=ad;obtain ⟨cs0,hc0,_⟩:=hel 0 (by omega);obtain ⟨_,hln,hq⟩:=World.cells?_some hc0;have hcell:=hq 0 (by decide);rw [List.getElem?_eq_getElem (by omega:0<cs0.length)] at hcell;have hspot:spot=none:=by simpa [Addr.add] using World.cell?_spot hcell
     subst hspot;have ad2:∀ o i,(⟨g,o,none⟩:Addr).add i=⟨g,o+i,none⟩:=fun o i=>by unfold Addr.add;split<;>simp_all
     obtain ⟨L,hL,hP⟩:=fD (P:=fun i (d:Dp)=>(∃ u,DpIn W g (off+i*2) d u)∧d.nm.size≤9223372036854775807) (n:=len) fun i hi=>by
      obtain ⟨cs,hc,ht⟩:=hel i (by omega);rw [ad2] at hc;exact KA hc ht
     subst hL;refine ⟨_,L,rfl,⟨_,_,rfl,hl,Or.inr ⟨g,off,rfl,?_,fun i hi=>(hP i hi).1⟩⟩,hz,?_⟩
     · have:=bZ hcell
       rw [ad2,ad2] at this;exact this
     · intro d hd
       obtain ⟨i,hi,rfl⟩:=List.getElem_of_mem hd;exact (hP i hi).2
theorem KB:Tryz.prog.cellsOf 54=7:=by kernel_rfl
theorem SX {α:Type} {l:List α} (h:l.length=7):∃ a b c d e f g,l=[a,b,c,d,e,f,g]:=by
 match l,h with
 |[a,b,c,d,e,f,g],_=>exact ⟨a,b,c,d,e,f,g,rfl⟩
end Go.Proofs.YtlmpiohbmlddiaaGreatDoor
