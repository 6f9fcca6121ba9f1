/- ScNu1, ScJo1, ScJo2: their declarations that are needed, laid in one text, remarks and blanks left out. -/
import Derived.Test.YtmnhnofnlcbliaaGreatDoorMg16
namespace Go.Proofs.YtmnhnofnlcbliaaGreatDoor.Sc
open Go.RowKit
set_option maxRecDepth 100000
structure EnvS (W:World):Prop where
 tab:Lib.TabIs Tryz.prog W "internal/strconv.uint64pow10" .u64 Lib.pow10Tab
 syn:∃ tp p,W.cell? ⟨8,0,none⟩=some (.iface tp p)
 rng:∃ tp p,W.cell? ⟨9,0,none⟩=some (.iface tp p)
theorem EnvS.below {W w:World} (h:EnvS W) (hb:Below W.heap.size W w):EnvS w:=by
 obtain ⟨tp,p,hs⟩:=h.syn;obtain ⟨tq,q,hq⟩:=h.rng;exact { tab:=Lib.tabBelow_of_tabIs h.tab w hb,syn:=⟨tp,p,(hb.cell (p:=⟨8,0,none⟩) (bY hs)).trans hs⟩,rng:=⟨tq,q,(hb.cell (p:=⟨9,0,none⟩) (bY hq)).trans hq⟩ }
theorem fO {w w':World} {t:TypeId} (h:w'=w∨∃ b,w'=Lib.bytesWorld w t b):Below w.heap.size w w':=by
 rcases h with rfl|⟨b,rfl⟩
 · exact Below.refl _ _
 · exact Lib.bytesWorld_below _ _ _
def lS (T:Bs) (most:Int):Int:=match oQ T with
 |some n=>if (n:Int)≤most then (n:Int) else 0
 |none=>0
def lT (T:Bs) (most:Int):Bool:=match oQ T with
 |some n=>decide ((n:Int)≤most)
 |none=>false
theorem kU {T:Bs} (h:oQ T=none) (most:Int):lS T most=0∧lT T most=false:=by unfold lS lT;rw [h];exact ⟨rfl,rfl⟩
theorem QA {T:Bs} {n:Nat} {most:Int} (h:oQ T=some n) (hm:¬ (n:Int)≤most):lS T most=0∧lT T most=false:=by unfold lS lT;rw [h];simp only;rw [if_neg hm,decide_eq_false hm];exact ⟨rfl,rfl⟩
theorem MN {T:Bs} {n:Nat} {most:Int} (h:oQ T=some n) (hm:(n:Int)≤most):lS T most=n∧lT T most=true:=by unfold lS lT;rw [h];simp only;rw [if_pos hm,decide_eq_true hm];exact ⟨rfl,rfl⟩
theorem nJ {a b:Int} {x y:Bool} (h1:a=b) (h2:x=y):Ending.returned (.tuple #[.int .i64 a,.bool x])= .returned (.tuple #[.int .i64 b,.bool y]):=by rw [h1,h2]
def GZ (f:Nat) (s:ByteArray) (most:Int) (w:World):Prop:=Calls Tryz.prog f #[.string s,.int .i64 most] w fun e w'=>e= .returned (.tuple #[.int .i64 (lS s.data.toList most),.bool (lT s.data.toList most)])∧Below w.heap.size w w'
set_option maxHeartbeats 3200000 in
theorem MO (s:ByteArray) (hs:s.size≤281474976710656) (most:Int) (w:World) (he:EnvS w):GZ 281 s most w:=by
 have hnr:=YF s.data.toList;cases h:Lib.atoiAll s.data.toList with
 |ok v=>
  have hc:=aB (Tryz.strconv_Atoi_ok s (by omega) v h w);have hvb:=Lib.atoiAll_bounds h
  by_cases h0:v<0
  · have HA:Hid (lS s.data.toList most=0∧lT s.data.toList most=false):=kU (by rw [←hnr];unfold CP;rw [h];simp only;rw [if_neg (by omega)]) most
    clear hnr h he;unfold GZ
    go_enter Tryz.func281,Tryz.ntmps281
    go_wp2_with (go_at_call 298;refine hc.out.mono ?_;rintro e w1 ⟨rfl,hb⟩;have HB:Hid (Below w.heap.size w w1):=fO hb;clear hb)
    go_ret2;exact ⟨nJ HA.out.1.symm HA.out.2.symm,HB.out⟩
  · by_cases hm:most<v
    · have HA:Hid (lS s.data.toList most=0∧lT s.data.toList most=false):=by
       cases hr:oQ s.data.toList with
       |none=>exact kU hr most
       |some n=>
        refine QA hr ?_;rw [hr] at hnr;unfold CP at hnr;rw [h] at hnr
        simp only at hnr
        split at hnr
        · injection hnr with e;omega
        · cases hnr
      clear hnr h he;unfold GZ
      go_enter Tryz.func281,Tryz.ntmps281
      go_wp2_with (go_at_call 298;refine hc.out.mono ?_;rintro e w1 ⟨rfl,hb⟩;have HB:Hid (Below w.heap.size w w1):=fO hb;clear hb)
      go_ret2;exact ⟨nJ HA.out.1.symm HA.out.2.symm,HB.out⟩
    · have HI:Hid (∀ w1,Below w.heap.size w w1→Calls Tryz.prog 170 #[.int .i64 v] w1 fun e w'=>e= .returned (.string ⟨(Lib.itoa v).toArray⟩)∧Below w1.heap.size w1 w'):=by
       intro w1 hb;refine (Tryz.strconv_Itoa v (by omega) (by omega) w1 (he.below hb).tab).mono ?_;rintro e w' ⟨rfl,k,os,rfl⟩;exact ⟨rfl,Lib.below_grow _ _ (Nat.le_refl _) k os⟩
      by_cases ht:Lib.itoa v=s.data.toList
      · have HA:Hid (lS s.data.toList most=v∧lT s.data.toList most=true):=by
         have hr:oQ s.data.toList=some v.toNat:=by rw [←hnr];unfold CP;rw [h];simp only;rw [if_pos ⟨by omega,ht⟩]
         obtain ⟨a,b⟩:=MN (most:=most) hr (by omega);exact ⟨by rw [a];omega,b⟩
        have hx:(⟨(Lib.itoa v).toArray⟩:ByteArray)=s:=by rw [ht]
        rw [hx] at HI;clear hnr h he hx ht;unfold GZ
        go_enter Tryz.func281,Tryz.ntmps281
        go_wp2_with (first|(go_at_call 298;refine hc.out.mono ?_;rintro e w1 ⟨rfl,hb⟩;have HB:Hid (Below w.heap.size w w1):=fO hb;clear hb)|(go_at_call 170;refine (HI.out _ HB.out).mono ?_;rintro e w2 ⟨rfl,hb⟩;have HB2:Hid (Below w.heap.size w w2):=aA HB.out hb;clear hb))
        go_ret2;exact ⟨nJ HA.out.1.symm HA.out.2.symm,HB2.out⟩
      · have HA:Hid (lS s.data.toList most=0∧lT s.data.toList most=false):=kU (by rw [←hnr];unfold CP;rw [h];simp only;rw [if_neg (fun q=>ht q.2)]) most
        have hx:((⟨(Lib.itoa v).toArray⟩:ByteArray).toList==s.toList)=false:=by
         rw [beq_eq_false_iff_ne];intro e
         have:=congrArg (fun x:ByteArray=>x.data.toList) (bC e)
         simp at this
         exact ht this
        generalize (⟨(Lib.itoa v).toArray⟩:ByteArray)=x at*;clear hnr h he ht;unfold GZ
        go_enter Tryz.func281,Tryz.ntmps281
        go_wp2_with (first|(go_at_call 298;refine hc.out.mono ?_;rintro e w1 ⟨rfl,hb⟩;have HB:Hid (Below w.heap.size w w1):=fO hb;clear hb)|(go_at_call 170;refine (HI.out _ HB.out).mono ?_;rintro e w2 ⟨rfl,hb⟩;have HB2:Hid (Below w.heap.size w w2):=aA HB.out hb;clear hb))
        go_ret2;exact ⟨nJ HA.out.1.symm HA.out.2.symm,HB2.out⟩
 |«syntax»=>
  obtain ⟨tp,p,hsy⟩:=he.syn;have HA:Hid (lS s.data.toList most=0∧lT s.data.toList most=false):=kU (by rw [←hnr];unfold CP;rw [h]) most;have hc:=aB (Tryz.strconv_Atoi_syntax s hs h _ w hsy (Or.inr ⟨tp,p,rfl⟩));clear h hsy he hnr;unfold GZ
  go_enter Tryz.func281,Tryz.ntmps281
  go_wp2_with (go_at_call 298;refine hc.out.mono ?_;rintro e w1 ⟨N,rfl,_,_,hb⟩;have HB:Hid (Below w.heap.size w w1):=hb;clear hb)
  go_ret2;exact ⟨nJ HA.out.1.symm HA.out.2.symm,HB.out⟩
 |range=>
  obtain ⟨tq,q,hrg⟩:=he.rng;have HA:Hid (lS s.data.toList most=0∧lT s.data.toList most=false):=kU (by rw [←hnr];unfold CP;rw [h]) most;have hc:=aB (Tryz.strconv_Atoi_range s hs h _ w hrg (Or.inr ⟨tq,q,rfl⟩));clear h hrg he hnr;unfold GZ
  go_enter Tryz.func281,Tryz.ntmps281
  go_wp2_with (go_at_call 298;refine hc.out.mono ?_;rintro e w1 ⟨N,rfl,_,_,hb⟩;have HB:Hid (Below w.heap.size w w1):=hb;clear hb)
  go_ret2;exact ⟨nJ HA.out.1.symm HA.out.2.symm,HB.out⟩
set_option maxHeartbeats 1600000 in
theorem IA (s:ByteArray) (hs:s.size≤1000000000000) (w:World):Calls Tryz.prog 220 #[.string s] w fun e w'=>e= .returned (.bool (isW s.data.toList))∧w'=w:=by
 have HWB:Hid (∀ b:UInt8,∀ w1,Calls Tryz.prog 183 #[.int .u8 (b.toNat:Int)] w1 fun e w'=>e= .returned (.bool (wB b))∧w'=w1):=gF
 go_enter Tryz.func220,Tryz.ntmps220
 go_wp2
 go_loop [6] (fun i=>∃ k:Nat,k≤s.size∧i= .int .i64 k∧(s.data.toList.take k).all wB=true) (fun i=>s.size - (intOf i).toNat)
 case atStart=>exact ⟨0,Nat.zero_le _,rfl,rfl⟩
 case round=>
  obtain ⟨k,hk,rfl,hal⟩:=hrel;have HA:=aB hal;clear hal
  by_cases hlt:k<s.size
  · have HWk:=aB (HWB.out s[k])
    cases hw:wB s[k]
    · have HR:Hid (isW s.data.toList=false):=by unfold Hid isW;rw [PB hlt hw];rfl
      rw [hw] at HWk;clear hw
      go_wp2_with (go_at_call 183;refine (HWk.out _).mono ?_;rintro e w1 ⟨rfl,hw1⟩;subst hw1)
      go_ret;exact ⟨aD HR.out.symm,rfl⟩
    · have HA2:=aB (pT hlt HA.out hw)
      rw [hw] at HWk;clear hw
      go_wp2_with (go_at_call 183;refine (HWk.out _).mono ?_;rintro e w1 ⟨rfl,hw1⟩;subst hw1)
      exact ⟨⟨k+1,by omega,by go_num,HA2.out⟩,by simp [intOf];omega⟩
  · have hke:k=s.size:=by omega
    subst hke;have HR:Hid (isW s.data.toList= !s.toList.isEmpty):=by unfold Hid isW;rw [PC HA.out,vD];rfl
    cases he:s.toList.isEmpty
    · rw [he] at HR
      go_wp2
      go_ret;exact ⟨aD HR.out.symm,rfl⟩
    · rw [he] at HR
      go_wp2
      go_ret;exact ⟨aD HR.out.symm,rfl⟩
def Gn (ws:List Bs):Prop:=ws.length≤1000000000∧∀ x ∈ ws,x.length≤1000000000
set_option maxHeartbeats 1600000 in
theorem IB {ws:List Bs} (hf:Gn ws) {v:Value} {w:World} (hv:WordsAt w v ws):Calls Tryz.prog 171 #[v] w fun e w'=>e= .returned (.bool (isL ws))∧w'=w:=by
 have HMW:Hid (∀ x ∈ ws,∀ w1,Calls Tryz.prog 220 #[.string (ba x)] w1 fun e w'=>e= .returned (.bool (isW x))∧w'=w1):=by
  intro x hx w1
  have:=IA (ba x) (by rw [mY];have:=hf.2 x hx;omega) w1
  rw [cQ] at this;exact this
 have hlen:=hf.1;obtain ⟨ad,cap,rfl,hcap,hl⟩:=hv;have HL:=aB hl;clear hl hf
 go_enter Tryz.func171,Tryz.ntmps171
 go_wp2
 go_loop [7] (fun i=>∃ k:Nat,k≤ws.length∧i= .int .i64 k∧(ws.take k).all isW=true) (fun i=>ws.length - (intOf i).toNat)
 case atStart=>exact ⟨0,Nat.zero_le _,rfl,rfl⟩
 case round=>
  obtain ⟨k,hk,rfl,hal⟩:=hrel;have HA:=aB hal;clear hal
  by_cases hlt:k<ws.length
  · obtain ⟨g,o,rfl,hg,hc⟩:∃ g o,ad=some ⟨g,o,none⟩∧g<w.heap.size∧∀ i (h:i<ws.length),w.cell? ⟨g,o+i,none⟩=some (.string (ba ws[i])):=by
     rcases HL.out with rfl|h
     · simp at hlt
     · exact h
    have hcell:=hc k hlt;have HMk:=aB (HMW.out ws[k] (List.getElem_mem hlt));have htk:ws.take (k+1)=ws.take k++[ws[k]]:=List.take_succ_eq_append_getElem hlt;have hmem:=List.getElem_mem hlt;clear hc;cases hw:isW ws[k]
    · have HR:Hid (isL ws=false):=by
       unfold Hid isL
       have:ws.all isW=false:=by
        rw [Bool.eq_false_iff];intro h;rw [List.all_eq_true] at h
        have:=h _ hmem
        rw [hw] at this;cases this
       rw [this];rfl
      rw [hw] at HMk;clear hw htk hmem;generalize ba ws[k]=x at*
      go_wp2_with (go_at_call 220;refine (HMk.out _).mono ?_;rintro e w1 ⟨rfl,hw1⟩;subst hw1)
      go_ret;exact ⟨aD HR.out.symm,rfl⟩
    · have HA2:Hid ((ws.take (k+1)).all isW=true):=by unfold Hid;rw [htk,List.all_append,HA.out];simp [hw]
      rw [hw] at HMk;clear hw htk hmem;generalize ba ws[k]=x at*
      go_wp2_with (go_at_call 220;refine (HMk.out _).mono ?_;rintro e w1 ⟨rfl,hw1⟩;subst hw1)
      exact ⟨⟨k+1,by omega,by go_num,HA2.out⟩,by simp [intOf];omega⟩
  · have hke:k=ws.length:=by omega
    subst hke
    have HR:Hid (isL ws=decide (0<ws.length)):=by
     unfold Hid isL
     have:=HA.out
     rw [List.take_length] at this;rw [this];cases ws<;>simp
    go_wp2
    go_ret;refine ⟨aD ?_,rfl⟩;rw [HR.out]
theorem TQ {ws:List Bs} (h:ws≠[]):Lib.join ws [32]++[10]=aW ws:=by
 induction ws with
 |nil=>exact absurd rfl h
 |cons x l ih=>
  cases l with
  |nil=>rw [Lib.join_one];rfl
  |cons y r=>
   have e:aW (x::y::r)=x++[32]++aW (y::r):=rfl;rw [e,←ih (by simp)];simp [Lib.join,List.intercalate]
theorem TR {ws:List Bs} (hne:ws≠[]) (hl:ws.length≤140737488355328) (hj:(Lib.join ws [32]).length≤140737488355328) {v:Value} {w:World} (hv:WordsAt w v ws):
 Calls Tryz.prog 172 #[v,.string ⟨#[32]⟩] w fun e w'=>e= .returned (.string (ba (Lib.join ws [32])))∧Below w.heap.size w w':=by
 obtain ⟨ad,cap,rfl,hcap,hh⟩:=hv;obtain ⟨g,o,rfl,hg,hc⟩:=hh.resolve_left hne
 have e1:(ws.map ba).map (fun x=>x.data.toList)=ws:=by
  rw [List.map_map]
  conv=>rhs;rw [←List.map_id ws]
  exact List.map_congr_left fun x _=>cQ x
 have e2:(⟨#[32]⟩:ByteArray).data.toList=[32]:=rfl
 have:=Tryz.strings_Join g o cap (ws.map ba) ⟨#[32]⟩ w (fun j x hx=>by
  rw [List.getElem?_map] at hx
  by_cases hj:j<ws.length
  · rw [List.getElem?_eq_getElem hj] at hx
    simp only [Option.map_some,Option.some.injEq] at hx;rw [←hx];exact hc j hj
  · rw [List.getElem?_eq_none (by omega)] at hx
    cases hx) hg (by rw [List.length_map];exact hl) (by rw [List.length_map];exact hcap) (by rw [e1,e2];exact hj)
 rw [e1,e2,List.length_map] at this;exact this
theorem kV:∀ (ws:List Bs),1≤(aW ws).length∧ws.length≤(aW ws).length∧∀ x ∈ ws,x.length≤(aW ws).length
 |[]=>⟨by simp [aW],by simp,fun x hx=>by cases hx⟩
 |[w]=>⟨by simp [aW],by simp [aW],fun x hx=>by rw [List.mem_singleton.1 hx];simp [aW]⟩
 |w::q::r=>by
  obtain ⟨h1,h2,h3⟩:=kV (q::r);have e:aW (w::q::r)=w++[32]++aW (q::r):=rfl;rw [e];simp only [List.length_append,List.length_cons,List.length_nil] at*;refine ⟨by omega,by omega,fun x hx=> ?_⟩
  rcases List.mem_cons.1 hx with rfl|hx
  · omega
  · have:=h3 x hx;omega
theorem oS (l:List Bs) (L:List (List Bs)):aM (l::L)=aW l++aM L:=by simp [aM]
theorem gY:∀ (L:List (List Bs)),L.length≤(aM L).length∧∀ l ∈ L,(aW l).length≤(aM L).length
 |[]=>⟨by simp,fun l hl=>by cases hl⟩
 |l::L=>by
  obtain ⟨h1,h2⟩:=gY L
  have:=(kV l).1
  rw [oS];simp only [List.length_append,List.length_cons];refine ⟨by omega,fun x hx=> ?_⟩
  rcases List.mem_cons.1 hx with rfl|hx
  · omega
  · have:=h2 x hx;omega
theorem MP (L:List (List Bs)) (k:Nat):(aM (L.take k)).length≤(aM L).length:=by
 have:aM L=aM (L.take k)++aM (L.drop k):=by
  unfold aM;rw [←List.flatMap_append,List.take_append_drop]
 rw [this,List.length_append];omega
theorem MQ {L:List (List Bs)} {k:Nat} (h:k<L.length):aM (L.take (k+1))=aM (L.take k)++aW L[k]:=by
 rw [List.take_succ_eq_append_getElem h,uG]
def TS (L:List (List Bs)):ByteArray:=if L.all isL=true then ba (aM L) else ⟨#[]⟩
def TT (L:List (List Bs)):Int:=if L.all isL=true then 0 else 22
theorem CQ {L:List (List Bs)} (h:L.all isL=true):TS L=ba (aM L)∧TT L=0:=by unfold TS TT;rw [if_pos h,if_pos h];exact ⟨rfl,rfl⟩
theorem Ev {L:List (List Bs)} {l:List Bs} (hm:l ∈ L) (h:isL l=false):TS L=⟨#[]⟩∧TT L=22:=by
 have:L.all isL=false:=by
  rw [Bool.eq_false_iff];intro ha;rw [List.all_eq_true] at ha
  have:=ha l hm
  rw [h] at this;cases this
 unfold TS TT;rw [this];exact ⟨rfl,rfl⟩
theorem IC {a b:ByteArray} {x y:Int} (h1:a=b) (h2:x=y):Ending.returned (.tuple #[.string a,.int .i64 x])= .returned (.tuple #[.string b,.int .i64 y]):=by rw [h1,h2]
theorem Bld.new (w:World):Bld w.heap.size w.heap.size [] (w.alloc (.cells #[.pointer none,.slice none 0 0] 118)):=
 Or.inl ⟨Nat.le_refl _,.slice none 0 0,heap_alloc_new w _,⟨rfl,Or.inl ⟨rfl,rfl⟩⟩,by simp [Value.ownBlock]⟩
theorem Bld.below {B b:Nat} {l:Bs} {w w':World} (h:Bld B b l w) (hb:Below w.heap.size w w'):Bld B b l w':=by
 have key:∀ {p:Value},Lib.BuilderAt 118 5 B b p (Lib.byteCells l) w→Lib.BuilderAt 118 5 B b p (Lib.byteCells l) w':=by
  rintro p ⟨h1,v,h2,h3,h4⟩;refine ⟨h1,v,(hb.block b (Array.getElem?_eq_some_iff.1 h2).1).trans h2,⟨h3.1,?_⟩,h4⟩
  rcases h3.2 with hn|⟨g,cap,cur,hv,hB,hg,r⟩
  · exact Or.inl hn
  · exact Or.inr ⟨g,cap,cur,hv,hB,(hb.block g (Array.getElem?_eq_some_iff.1 hg).1).trans hg,r⟩
 exact h.imp key key
set_option maxHeartbeats 3200000 in
theorem YG {L:List (List Bs)} (hT:(aM L).length≤4194304) {v:Value} {w:World} (hv:LinesAt w v L):
 Calls Tryz.prog 127 #[v] w fun e w'=>e= .returned (.tuple #[.string (TS L),.int .i64 (TT L)])∧Below w.heap.size w w':=by
 have hLl:=(gY L).1;have HV:=aB hv;obtain ⟨ad,cap,rfl,hcap,_⟩:=hv;have HN:=aB (Bld.new w)
 go_enter Tryz.func127,Tryz.ntmps127
 go_wp2
 go_loopw [9] (fun i wr=>∃ k:Nat,k≤L.length∧i= .int .i64 k∧(L.take k).all isL=true∧Bld w.heap.size w.heap.size (aM (L.take k)) wr∧Below w.heap.size w wr) (fun i _=>L.length - (intOf i).toNat)
 case atStart=>exact ⟨0,Nat.zero_le _,rfl,rfl,HN.out,aC _ _⟩
 case round=>
  obtain ⟨k,hk,rfl,hal,hbd,hbe⟩:=hrel;have HA:=aB hal;have HB:=aB hbd;have HE:=aB hbe;clear hal hbd hbe HN;have hze:=HE.out.size
  by_cases hlt:k<L.length
  · obtain ⟨u,g,o,had,hg,hcell,hwu⟩:∃ u g o,ad=some ⟨g,o,none⟩∧g<wr.heap.size∧wr.cell? ⟨g,o+k,none⟩=some u∧WordsAt wr u L[k]:=by
     obtain ⟨ad',cap',hq,_,hl⟩:=HV.out.below HE.out;cases hq
     rcases hl with rfl|⟨g,o,h1,h2,h3⟩
     · simp at hlt
     · obtain ⟨u,h4,h5⟩:=h3 k hlt
       exact ⟨u,g,o,h1,h2,h4,h5⟩
    subst had;have hll:=kV L[k];have hlm:=(gY L).2 _ (List.getElem_mem hlt);have hmore:=MQ hlt;have hml:=MP L (k+1);have HWU:=aB hwu;have HML:=aB (IB (w:=wr) ⟨by omega,fun x hx=>by have:=hll.2.2 x hx;omega⟩ hwu);have htk:L.take (k+1)=L.take k++[L[k]]:=List.take_succ_eq_append_getElem hlt;obtain ⟨bd,cap2,rfl,_,_⟩:=hwu;cases hw:isL L[k]
    · have HR:=aB (Ev (List.getElem_mem hlt) hw)
      rw [hw] at HML;clear hw htk hmore hml hll hlm HWU
      go_wp2_with (go_at_call 171;refine HML.out.mono ?_;rintro e w1 ⟨rfl,hw1⟩;subst hw1)
      go_ret2;exact ⟨IC HR.out.1.symm HR.out.2.symm,HE.out⟩
    · have hne:L[k]≠[]:=by intro e;rw [e] at hw;cases hw
      have HA2:Hid ((L.take (k+1)).all isL=true):=by unfold Hid;rw [htk,List.all_append,HA.out];simp [hw]
      have hjl:=TQ hne;have hjn:(Lib.join L[k] [32]).length+1=(aW L[k]).length:=by rw [←hjl];simp
      have hml2:(aM (L.take k)).length+(aW L[k]).length≤4194304:=by rw [hmore,List.length_append] at hml;omega
      have HT:Hid (aM (L.take (k+1))=aM (L.take k)++Lib.join L[k] [32]++[10]):=by unfold Hid;rw [hmore,←hjl];simp
      have HJ:=aB (TR hne (by omega) (by omega) HWU.out)
      have HX:Hid (∀ w1:World,Bld w.heap.size w.heap.size (aM (L.take k)) w1→w.heap.size≤w1.heap.size→Calls Tryz.prog 54 #[.pointer (some ⟨w.heap.size,0,none⟩),.string (ba (Lib.join L[k] [32]))] w1 fun e w'=>∃ n,e= .returned (.tuple #[.int .i64 n,.nilIface])∧Bld w.heap.size w.heap.size (aM (L.take k)++Lib.join L[k] [32]) w'∧Below w.heap.size w1 w'):=by
       intro w1 h1 h2;refine (Au (ba (Lib.join L[k] [32])) h1 (by rw [mY];omega) h2).mono ?_;rintro e w' ⟨rfl,h3,h4⟩;rw [cQ] at h3;exact ⟨_,rfl,h3,h4⟩
      have HY:Hid (∀ w1:World,Bld w.heap.size w.heap.size (aM (L.take k)++Lib.join L[k] [32]) w1→w.heap.size≤w1.heap.size→Calls Tryz.prog 173 #[.pointer (some ⟨w.heap.size,0,none⟩),.int .u8 10] w1 fun e w'=>e= .returned .nilIface∧Bld w.heap.size w.heap.size (aM (L.take k)++Lib.join L[k] [32]++[10]) w'∧Below w.heap.size w1 w'):=by
       intro w1 h1 h2;exact At 10 h1 (by rw [List.length_append];omega) h2
      rw [hw] at HML;clear hw htk hmore hml hll hlm HWU hjl hjn hml2 hne;generalize ba (Lib.join L[k] [32])=tx at*
      go_wp2_with (first
       |(go_at_call 171;refine HML.out.mono ?_;rintro e w1 ⟨rfl,hw1⟩;subst hw1)
       |(go_at_call 172;refine HJ.out.mono ?_;rintro e w3 ⟨rfl,hb3⟩;have HB3:=aB (HB.out.below hb3);have HE3:Hid (Below w.heap.size w w3):=aA HE.out hb3;clear hb3)
       |(go_at_call 54;refine (HX.out _ HB3.out HE3.out.size).mono ?_;rintro e w4 ⟨n4,rfl,hb4,he4⟩;have HB4:=aB hb4;have HE4:Hid (Below w.heap.size w w4):=HE3.out.trans he4;clear hb4 he4)
       |(go_at_call 173;refine (HY.out _ HB4.out HE4.out.size).mono ?_;rintro e w5 ⟨rfl,hb5,he5⟩;have HB5:=aB hb5;have HE5:Hid (Below w.heap.size w w5):=HE4.out.trans he5;clear hb5 he5))
      exact ⟨⟨k+1,by omega,by go_num,HA2.out,by rw [HT.out];exact HB5.out,HE5.out⟩,by simp [intOf];omega⟩
  · have hke:k=L.length:=by omega
    subst hke;have HR:Hid (TS L=ba (aM L)∧TT L=0):=CQ (by have:=HA.out;rw [List.take_length] at this;exact this)
    have HS:Hid (Calls Tryz.prog 55 #[.pointer (some ⟨w.heap.size,0,none⟩)] wr fun e w'=>e= .returned (.string (ba (aM L)))∧Below w.heap.size wr w'):=by
     have:=HB.out
     rw [List.take_length] at this;exact Tryz.Builder_String_any w.heap.size w.heap.size (aM L) wr this hze
    go_wp2_with (go_at_call 55;refine HS.out.mono ?_;rintro e w3 ⟨rfl,hb3⟩;have HE3:Hid (Below w.heap.size w w3):=HE.out.trans hb3;clear hb3)
    go_ret2;exact ⟨IC HR.out.1.symm HR.out.2.symm,HE3.out⟩
end Go.Proofs.YtmnhnofnlcbliaaGreatDoor.Sc
