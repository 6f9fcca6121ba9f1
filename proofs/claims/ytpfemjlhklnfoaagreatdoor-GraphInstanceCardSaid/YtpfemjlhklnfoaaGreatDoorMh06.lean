/- Pk4, Ps2, ScBd1, Pure3, Wr1, Pk6, Pk7, Pk8: their declarations that are needed, laid in one text, remarks and blanks left out. -/
import Derived.Maps.Own
import Derived.Maps.Views
import Derived.Shelf.Strings.Builder1
import Derived.Lib.IndexMore
import Derived.Lib.CountLaws
import Derived.Test.YtpfemjlhklnfoaaGreatDoorScC
import Derived.Laws.RangeAny
import Derived.Lib.OthersKept
import Derived.Test.YtpfemjlhklnfoaaGreatDoorMh05
namespace Go.Proofs.YtpfemjlhklnfoaaGreatDoor
open Go.RowKit Go.Maps Go.WideMaps Go.WideElems
set_option maxRecDepth 100000
def jX (s:ByteArray):Lit:= .string s.data.toList
theorem nM {s t:ByteArray} (h:jX s=jX t):s=t:=by
 unfold jX at h;injection h with h
 exact bO (by rw [ByteArray.toList_eq,ByteArray.toList_eq,h])
theorem nN (s:ByteArray):WideAt.IsKeyLit (jX s):=by unfold jX WideAt.IsKeyLit;trivial
theorem gR:Keyed Tryz.prog 9:=string_keyed Tryz.underlying9
theorem rS {s:ByteArray} (hs:s.size≤maxLen):keyOf Tryz.prog 9 (.string s)=some (jX s):=keyOf_string_mk Tryz.underlying9 hs
theorem dY (w:World):(zeroValue 3).run Tryz.prog w= .ok (.int .i64 0) w:=by kernel_rfl
def CntD (D:DataW Unit) (done:List ByteArray):Prop:=IsMap D∧∀ s:ByteArray,(s ∈ done→D.atKey (jX s) (.lit (.int .i64 0))= .lit (.int .i64 1))∧(s ∉ done→D.atKey (jX s) (.lit (.int .i64 0))= .lit (.int .i64 0))
theorem CntD.nil:CntD (.map []) []:=⟨⟨[],rfl⟩,fun _=>⟨fun h=>(by cases h),fun _=>rfl⟩⟩
theorem BF {D:DataW Unit} (h:IsMap D) (k:Lit) (d:DataW Unit):IsMap (D.put k d):=by
 obtain ⟨es,rfl⟩:=h;exact ⟨_,rfl⟩
theorem CntD.put {D:DataW Unit} {done:List ByteArray} (h:CntD D done) {s:ByteArray}:CntD (D.put (jX s) (.lit (.int .i64 1))) (done++[s]):=by
 refine ⟨BF h.1 _ _,fun t=> ?_⟩
 by_cases e:t=s
 · subst e
   rw [atKey_put_same h.1 (nN t)];exact ⟨fun _=>rfl,fun hn=>absurd (by simp) hn⟩
 · rw [atKey_put_other fun k=>e (nM k)]
   exact ⟨fun hm=>(h.2 t).1 (by simpa [e] using hm),fun hn=>(h.2 t).2 (by simpa [e] using hn)⟩
def rT (w:World) (g o:Nat) (Ls:List (List Dp)):Prop:=g<w.heap.size∧∀ k (h:k<Ls.length),∃ u,w.cell? ⟨g,o+k,none⟩=some u∧DepsAt w u Ls[k]
def eH (Ls:List (List Dp)):List ByteArray:=Ls.flatten.map Dp.nm
noncomputable def fG (Ls:List (List Dp)):Bool:= @decide ((eH Ls).Nodup) (Classical.propDecidable _)
theorem JP {Ls:List (List Dp)} {done rest:List ByteArray} {s:ByteArray} (h:eH Ls=done++s::rest) (hs:s ∈ done):fG Ls=false:=by
 unfold fG;refine @decide_eq_false _ (Classical.propDecidable _) fun hn=> ?_
 rw [h,List.nodup_append] at hn;exact hn.2.2 s hs s List.mem_cons_self rfl
theorem tQ {Ls:List (List Dp)} (h:(eH Ls).Nodup):fG Ls=true:=by unfold fG;exact @decide_eq_true _ (Classical.propDecidable _) h
theorem nO {l:List ByteArray} {s:ByteArray} (h:l.Nodup) (hs:s ∉ l):(l++[s]).Nodup:=by
 rw [List.nodup_append];refine ⟨h,by simp,?_⟩;intro a ha b hb e;rw [List.mem_singleton] at hb;subst hb e;exact hs ha
def eI (L:List Dp):Prop:=L.length≤16∧∀ d ∈ L,d.nm.size≤16
theorem bH {L:List Dp} (h:aM L=true):eI L:=by
 unfold aM at h;rw [Bool.and_eq_true,decide_eq_true_eq] at h;refine ⟨h.1,?_⟩
 have:∀ (M:List Dp) (q:Option ByteArray),bW q M=true→∀ d ∈ M,d.nm.size≤16:=by
  intro M
  induction M with
  |nil=>intro q _ d hd;cases hd
  |cons e M ih=>
   intro q hq d hd;rw [bW,Bool.and_eq_true,Bool.and_eq_true] at hq
   rcases List.mem_cons.1 hd with rfl|hd
   · have:=hq.1.1
     unfold bX at this;rw [Bool.and_eq_true] at this
     have:=this.1
     unfold Sc.aQ at this;rw [Bool.and_eq_true,decide_eq_true_eq,aX] at this;exact this.2
   · exact ih _ hq.2 d hd
 exact this L none h.2
def KO (w:World) (M n:Nat) (D:DataW Unit) (w1:World):Prop:=Below w.heap.size w w1∧w1.ownsMap Tryz.prog 9 (plainElem Tryz.prog 3) M n D
theorem KO.alloc {w:World} {M n:Nat} {D:DataW Unit} {w1:World} (h:KO w M n D w1) (o:Obj):KO w M n D (w1.alloc o):=⟨aB h.1 (aD _ _),h.2.alloc o⟩
def OJ (w:World) (Ls:List (List Dp)) (L T:List Dp) (K:Nat) (j:Value) (wq:World):Prop:=∃ (m n:Nat) (D:DataW Unit) (done:List ByteArray),m≤L.length∧j= .int .i64 m∧n≤16*K+m∧KO w w.heap.size n D wq∧CntD D done∧done.Nodup∧eH Ls=done++(L.drop m++T).map Dp.nm
set_option maxHeartbeats 6400000 in
theorem tR {Ls:List (List Dp)} {g o cap:Nat} {w:World} (h:rT w g o Ls) (hs:∀ L ∈ Ls,eI L) (hln:Ls.length≤16):
 Calls Tryz.prog 198 #[.slice (some ⟨g,o,none⟩) Ls.length cap] w fun e w'=>e= .returned (.bool (fG Ls))∧Below w.heap.size w w':=by
 have HP:Hid (∀ k (h:k<Ls.length),∃ u,∀ w1,Below w.heap.size w w1→w1.cell? ⟨g,o+k,none⟩=some u∧DepsAt w1 u Ls[k]):=fun k hk=>(h.2 k hk).imp fun u hu w1 hb=>⟨(hb.cell (p:=⟨g,o+k,none⟩) h.1).trans hu.1,hu.2.below hb⟩
 have HS:=aA hs;clear h hs;have hmm:= @run_makeMap Tryz.prog;have HM0:Hid (KO w w.heap.size 0 (.map []) (w.alloc (.map #[] 0))):=⟨aD _ _,World.ownsMap_made (H:=Unit) w Tryz.prog 9 (plainElem Tryz.prog 3)⟩
 go_enter Tryz.func198,Tryz.ntmps198
 go_wp2_with fail
 go_loopw [11] (fun i wr=>∃ (k n:Nat) (D:DataW Unit) (done:List ByteArray),k≤Ls.length∧i= .int .i64 k∧n≤16*k∧KO w w.heap.size n D wr∧CntD D done∧done.Nodup∧eH Ls=done++(Ls.drop k).flatten.map Dp.nm) (fun i _=>Ls.length - (intOf i).toNat)
 case atStart=>exact ⟨0,0,.map [],[],Nat.zero_le _,rfl,Nat.le_refl _,HM0.out,CntD.nil,List.nodup_nil,rfl⟩
 case round=>
  obtain ⟨k,n,D,done,hk,rfl,hn,hko,hcn,hnd,hnm⟩:=hrel
  by_cases hkl:k<Ls.length
  · obtain ⟨u,HU⟩:=HP.out k hkl
    obtain ⟨cu,hdu⟩:=HU wr hko.1;obtain ⟨AA,CC,rfl,hzc⟩:=hdu.len;have HU:=aA HU;clear hdu;have HSL:=aA (HS.out _ (List.getElem_mem hkl));have HKO0:=aA hko;have HCN0:=aA hcn;have HND0:=aA hnd
    have HNM0:Hid (eH Ls=done++(Ls[k]++(Ls.drop (k+1)).flatten).map Dp.nm):=by
     unfold Hid;rw [hnm,List.drop_eq_getElem_cons hkl,List.flatten_cons]
    have l1:=HSL.out.1;clear hko hcn hnd hnm;generalize Ls[k]=L at*;generalize hT:(Ls.drop (k+1)).flatten=T at*;have HT:=aA hT;clear hT
    go_wp2_with fail
    go_loopw [17] (fun j wq=>OJ w Ls L T k j wq) (fun j _=>L.length - (intOf j).toNat)
    case atStart=>exact ⟨0,n,D,done,Nat.zero_le _,rfl,by omega,HKO0.out,HCN0.out,HND0.out,HNM0.out⟩
    case round=>
     clear HKO0 HCN0 HND0 HNM0 cu;obtain ⟨m,n,D,done,hm,rfl,hn,hko,hcn,hnd,hnm⟩:=hrel
     by_cases hlt:m<L.length
     · obtain ⟨ad,cap,e,_,hcs⟩:=(HU.out wr hko.1).2
       cases e
       obtain ⟨g,o,rfl,hg,hcs⟩:∃ g o,AA=some ⟨g,o,none⟩∧g<wr.heap.size∧∀ i (h:i<L.length),∃ u,DpIn wr g (o+i*2) L[i] u:=by
        rcases hcs with h|h
        · rw [h] at hlt;simp at hlt
        · exact h
       obtain ⟨u,p0,p1,⟨⟨hu,_⟩,_⟩,p3⟩:=hcs m hlt;obtain ⟨au,cu,rfl⟩:=hu.sl;have hnz:L[m].nm.size≤16:=HSL.out.2 _ (List.getElem_mem hlt)
       have HNM1:Hid (eH Ls=done++L[m].nm::(L.drop (m+1)++T).map Dp.nm):=by
        unfold Hid;rw [hnm,List.drop_eq_getElem_cons hlt];rfl
       clear hcs hu hnm;generalize L[m].rg.length=lu at*;generalize L[m].nm=s at*;have hkey:keyOf Tryz.prog 9 (.string s)=some (jX s):=rS (by unfold maxLen;omega);have HKA:Hid (KO w w.heap.size n D (wr.alloc (.cells #[.string s,.slice au lu cu] 89))):=hko.alloc _;obtain ⟨c,hrun,hat,_⟩:=HKA.out.2.lookup_int gR Tryz.underlying210 Tryz.underlying3 (dY _) hkey;have hBX:Hid (BxD (wr.alloc (.cells #[.string s,.slice au lu cu] 89)) wr.heap.size s (.slice au lu cu)):=BxD.new rfl _ _;have hMw:w.heap.size<wr.heap.size:=hko.2.lt;have hBw:=hko.1.size
       by_cases hin:s ∈ done
       · rw [(hcn.2 s).1 hin] at hat
         obtain rfl:c=1:=by injection hat with h1;injection h1 with _ h2;exact h2.symm
         have HR:=aA (JP HNM1.out hin);have HMP:=aA hcn.1;clear hko hcn hnd HNM1
         go_wp2_with (at_mapUpdate;refine wpList_mapUpdate_own _ rfl _ _ _ 210 rfl 9 3 gR Tryz.underlying210 _ w.heap.size n D rfl HKA.out.2 (by unfold maxLen;omega) _ _ _ rfl rfl hkey _ [] (plainElem_int (H:=Unit) Tryz.underlying3 (show (Lit.int .i64 2).wf=true by decide)) ?_;intro w5 hown5 hg5;obtain ⟨c5,hrun5,hat5,_⟩:=hown5.lookup_int gR Tryz.underlying210 Tryz.underlying3 (dY _) hkey;rw [atKey_put_same HMP.out (nN s)] at hat5;obtain rfl:c5=2:=(by injection hat5 with h1;injection h1 with _ h2;exact h2.symm);have b0:w5.cell? ⟨wr.heap.size,0,none⟩=some (.string s):=(hg5.cell_far ⟨wr.heap.size,0,none⟩ (by simp) (by simp;omega)).trans hBX.out.1;have HB5:Hid (Below w.heap.size w w5):=HKA.out.1.grown hg5 HKA.out.1.size (fun j hj=>by cases hj;omega);clear hat5)
         go_ret;exact ⟨aC HR.out.symm,HB5.out⟩
       · rw [(hcn.2 s).2 hin] at hat
         obtain rfl:c=0:=by injection hat with h1;injection h1 with _ h2;exact h2.symm
         have HCN2:Hid (CntD (D.put (jX s) (.lit (.int .i64 1))) (done++[s])):=hcn.put;have HND2:=aA (nO hnd hin);have HNM2:Hid (eH Ls=(done++[s])++(L.drop (m+1)++T).map Dp.nm):=by unfold Hid;rw [HNM1.out];simp
         have HMP:=aA hcn.1;clear hko hcn hnd HNM1
         go_wp2_with (at_mapUpdate;refine wpList_mapUpdate_own _ rfl _ _ _ 210 rfl 9 3 gR Tryz.underlying210 _ w.heap.size n D rfl HKA.out.2 (by unfold maxLen;omega) _ _ _ rfl rfl hkey _ [] (plainElem_int (H:=Unit) Tryz.underlying3 (show (Lit.int .i64 1).wf=true by decide)) ?_;intro w5 hown5 hg5;obtain ⟨c5,hrun5,hat5,_⟩:=hown5.lookup_int gR Tryz.underlying210 Tryz.underlying3 (dY _) hkey;rw [atKey_put_same HMP.out (nN s)] at hat5;obtain rfl:c5=1:=(by injection hat5 with h1;injection h1 with _ h2;exact h2.symm);have b0:w5.cell? ⟨wr.heap.size,0,none⟩=some (.string s):=(hg5.cell_far ⟨wr.heap.size,0,none⟩ (by simp) (by simp;omega)).trans hBX.out.1;have HB5:Hid (KO w w.heap.size (n+1) (D.put (jX s) (.lit (.int .i64 1))) w5):=⟨HKA.out.1.grown hg5 HKA.out.1.size (fun j hj=>by cases hj;omega),hown5⟩;clear hat5)
         exact ⟨⟨m+1,n+1,_,_,by omega,by go_num,by omega,HB5.out,HCN2.out,HND2.out,HNM2.out⟩,by simp [intOf];omega⟩
     · have HNM2:Hid (eH Ls=done++T.map Dp.nm):=by unfold Hid;rw [hnm,List.drop_of_length_le (by omega)];rfl
       have HKO:=aA hko;have HCN:=aA hcn;have HND:=aA hnd;clear hko hcn hnd hnm
       go_wp2
       exact ⟨⟨k+1,n,D,done,by omega,by go_num,by omega,HKO.out,HCN.out,HND.out,by rw [HT.out];exact HNM2.out⟩,by simp [intOf];omega⟩
  · have HND:Hid (fG Ls=true):=tQ (by rw [hnm,List.drop_of_length_le (by omega)];simpa using hnd)
    have HKO:=aA hko;clear hko hcn hnd hnm
    go_wp2
    go_ret;exact ⟨aC HND.out.symm,HKO.out.1⟩
end Go.Proofs.YtpfemjlhklnfoaaGreatDoor
namespace Go.Proofs.YtpfemjlhklnfoaaGreatDoor
open Go.RowKit
set_option maxRecDepth 100000
theorem pT (s:ByteArray) (a b c:Int) (a1 a2 a3:Option Addr) (l1 l2 l3 c1 c2 c3:Nat) (w:World):
 Calls Tryz.prog 134 #[.agg #[.string s,.int .i64 a,.int .i64 b,.int .i64 c,.slice a1 l1 c1,.slice a2 l2 c2,.slice a3 l3 c3]] w fun e w'=>e= .returned (.agg #[.slice a1 l1 c1,.slice a2 l2 c2,.slice a3 l3 c3])∧Below w.heap.size w w':=by
 go_enter Tryz.func134,Tryz.ntmps134
 go_wp2
 try simp only [Exit.inBlock,Exit.then]
 refine bodyPost_ret (by simp [results,Tryz.results134,go_sem];try rfl) rfl ?_;exact ⟨rfl,aR _ _ _⟩
theorem tS (x y z:Value) (w:World):(Instr.index 181 (.agg #[x,y,z]) (.int .i64 0)).run Tryz.prog w= .ok x w:=by kernel_rfl
theorem tT (x y z:Value) (w:World):(Instr.index 181 (.agg #[x,y,z]) (.int .i64 1)).run Tryz.prog w= .ok y w:=by kernel_rfl
theorem tU (x y z:Value) (w:World):(Instr.index 181 (.agg #[x,y,z]) (.int .i64 2)).run Tryz.prog w= .ok z w:=by kernel_rfl
noncomputable def pU (P:Pg):Bool:=fG [P.d,P.p,P.o]
theorem MM {w:World} {P:Pg} {v1 v2 v3:Value} (h:PgAt w P v1 v2 v3):rT (w.alloc (.cells #[v1,v2,v3] 32)) w.heap.size 0 [P.d,P.p,P.o]:=by
 refine ⟨by simp,fun k hk=> ?_⟩
 match k,hk with
 |0,_=>exact ⟨v1,by simp,h.1.below (aD _ _)⟩
 |1,_=>exact ⟨v2,by simp,h.2.1.below (aD _ _)⟩
 |2,_=>exact ⟨v3,by simp,h.2.2.below (aD _ _)⟩
theorem NU {w:World} {P:Pg} {v1 v2 v3:Value} (h:PgAt w P v1 v2 v3) (h1:eI P.d) (h2:eI P.p) (h3:eI P.o):Calls Tryz.prog 198 #[.slice (some ⟨w.heap.size,0,none⟩) 3 3] (w.alloc (.cells #[v1,v2,v3] 32)) fun e w'=>e= .returned (.bool (pU P))∧Below (w.alloc (.cells #[v1,v2,v3] 32)).heap.size (w.alloc (.cells #[v1,v2,v3] 32)) w':=
 tR (Ls:=[P.d,P.p,P.o]) (MM h) (fun L hL=>by
  simp only [List.mem_cons,List.not_mem_nil,or_false] at hL
  rcases hL with rfl|rfl|rfl<;>assumption) (by simp)
noncomputable def eV (P:Pg):Bool:=Sc.aQ P.nm.data.toList&&aN P.a P.b P.c&&(aM P.d&&(aM P.p&&aM P.o))&&pU P
set_option maxHeartbeats 3200000 in
theorem pV {P:Pg} {v1 v2 v3:Value} {w:World} (h:PgAt w P v1 v2 v3):
 Calls Tryz.prog 130 #[.agg #[.string P.nm,.int .i64 P.a,.int .i64 P.b,.int .i64 P.c,v1,v2,v3]] w fun e w'=>e= .returned (.bool (eV P))∧Below w.heap.size w w':=by
 have HN:Hid (∀ w1,Calls Tryz.prog 162 #[.string P.nm] w1 fun e w'=>e= .returned (.bool (Sc.aQ P.nm.data.toList))∧w'=w1):=Sc.jW P.nm;have HV:Hid (∀ w1,Calls Tryz.prog 97 #[.agg #[.int .i64 P.a,.int .i64 P.b,.int .i64 P.c]] w1 fun e w'=>e= .returned (.bool (aN P.a P.b P.c))∧Below w1.heap.size w1 w'):=dX _ _ _;have HM1:Hid (∀ w1,Below w.heap.size w w1→Calls Tryz.prog 197 #[v1] w1 fun e w'=>e= .returned (.bool (aM P.d))∧Below w1.heap.size w1 w'):=fun w1 hb=>cX (h.1.below hb)
 have HM2:Hid (∀ w1,Below w.heap.size w w1→Calls Tryz.prog 197 #[v2] w1 fun e w'=>e= .returned (.bool (aM P.p))∧Below w1.heap.size w1 w'):=fun w1 hb=>cX (h.2.1.below hb)
 have HM3:Hid (∀ w1,Below w.heap.size w w1→Calls Tryz.prog 197 #[v3] w1 fun e w'=>e= .returned (.bool (aM P.o))∧Below w1.heap.size w1 w'):=fun w1 hb=>cX (h.2.2.below hb)
 have HEO:Hid (aM P.d=true→aM P.p=true→aM P.o=true→∀ w1,Below w.heap.size w w1→Calls Tryz.prog 198 #[.slice (some ⟨w1.heap.size,0,none⟩) 3 3] (w1.alloc (.cells #[v1,v2,v3] 32)) fun e w'=>e= .returned (.bool (pU P))∧Below (w1.alloc (.cells #[v1,v2,v3] 32)).heap.size (w1.alloc (.cells #[v1,v2,v3] 32)) w'):=fun h1 h2 h3 w1 hb=>NU (h.below hb) (bH h1) (bH h2) (bH h3)
 have HSB:Hid (eV P=(Sc.aQ P.nm.data.toList&&aN P.a P.b P.c&&(aM P.d&&(aM P.p&&aM P.o))&&pU P)):=rfl;obtain ⟨a1,c1,rfl⟩:=h.1.sl;obtain ⟨a2,c2,rfl⟩:=h.2.1.sl;obtain ⟨a3,c3,rfl⟩:=h.2.2.sl;have HLI:Hid (∀ w1,Calls Tryz.prog 134 #[.agg #[.string P.nm,.int .i64 P.a,.int .i64 P.b,.int .i64 P.c,.slice a1 P.d.length c1,.slice a2 P.p.length c2,.slice a3 P.o.length c3]] w1 fun e w'=>e= .returned (.agg #[.slice a1 P.d.length c1,.slice a2 P.p.length c2,.slice a3 P.o.length c3])∧Below w1.heap.size w1 w'):=pT _ _ _ _ _ _ _ _ _ _ _ _ _;clear h;generalize eV P=SB at*;generalize pU P=ob at*;generalize aM P.d=m1 at*;generalize aM P.p=m2 at*;generalize aM P.o=m3 at*;generalize Sc.aQ P.nm.data.toList=nb at*;generalize aN P.a P.b P.c=vb at*;generalize P.d.length=l1 at*;generalize P.p.length=l2 at*;generalize P.o.length=l3 at*;generalize P.nm=s at*;generalize P.a=a at*;generalize P.b=b at*
 generalize P.c=c at*;have HBX:Hid (BxP (w.alloc (.cells #[.string s,.int .i64 a,.int .i64 b,.int .i64 c,.slice a1 l1 c1,.slice a2 l2 c2,.slice a3 l3 c3] 34)) w.heap.size s a b c (.slice a1 l1 c1) (.slice a2 l2 c2) (.slice a3 l3 c3)):=BxP.new rfl _ _ _ _ _ _ _;have HKB:Hid (KeepP fun w1=>BxP w1 w.heap.size s a b c (.slice a1 l1 c1) (.slice a2 l2 c2) (.slice a3 l3 c3)):=bF _ _ _ _ _ _ _ _;have ix0:=tS;have ix1:=tT;have ix2:=tU;cases nb
 · have HR:Hid (SB=false):=by unfold Hid;rw [HSB.out];rfl
   go_enter Tryz.func130,Tryz.ntmps130
   go_wp2_with (go_at_call 162;refine (HN.out _).mono ?_;rintro e w1 ⟨rfl,rfl⟩)
   go_ret;exact ⟨aC HR.out.symm,aD _ _⟩
 · cases vb
   · have HR:Hid (SB=false):=by unfold Hid;rw [HSB.out];rfl
     go_enter Tryz.func130,Tryz.ntmps130
     go_wp2_with (first
      |(go_at_call 162;refine (HN.out _).mono ?_;rintro e w1 ⟨rfl,rfl⟩)
      |(go_at_call 97;refine (HV.out _).mono ?_;rintro e w2 ⟨rfl,ok⟩;have HO2:=aA (aB (aD _ _) ok);clear ok))
     go_ret;exact ⟨aC HR.out.symm,HO2.out⟩
   · go_enter Tryz.func130,Tryz.ntmps130
     go_wp2_with (first
      |(go_at_call 162;refine (HN.out _).mono ?_;rintro e w1 ⟨rfl,rfl⟩)
      |(go_at_call 97;refine (HV.out _).mono ?_;rintro e w2 ⟨rfl,ok⟩;have HO2:=aA (aB (aD _ _) ok);have HB2:=aA (HKB.out _ _ HBX.out ok);obtain ⟨k0,k1,k2,k3,k4,k5,k6,k7⟩:=HB2.out;clear ok)
      |(go_at_call 134;refine (HLI.out _).mono ?_;rintro e w3 ⟨rfl,ok⟩;have HO3:Hid (Below w.heap.size w w3∧BxP w3 w.heap.size s a b c (.slice a1 l1 c1) (.slice a2 l2 c2) (.slice a3 l3 c3)):=⟨aB HO2.out ok,HKB.out _ _ HB2.out ok⟩;clear ok))
     clear k0 k1 k2 k3 k4 k5 k6 k7
     go_loopw [17] (fun i wr=>∃ k:Nat,k≤3∧i= .int .i64 k∧(Below w.heap.size w wr∧BxP wr w.heap.size s a b c (.slice a1 l1 c1) (.slice a2 l2 c2) (.slice a3 l3 c3))∧(1≤k→m1=true)∧(2≤k→m2=true)∧(3≤k→m3=true)) (fun i _=>3 - (intOf i).toNat)
     case atStart=>exact ⟨0,Nat.zero_le _,rfl,HO3.out,(fun h=>by omega),(fun h=>by omega),(fun h=>by omega)⟩
     case round=>
      obtain ⟨k,hk,rfl,hb,e1,e2,e3⟩:=hrel;have HB:=aA hb
      rcases (show k=0∨k=1∨k=2∨k=3 by omega) with rfl|rfl|rfl|rfl
      · clear hb e1 e2 e3
        cases m1
        · have HR:Hid (SB=false):=by unfold Hid;rw [HSB.out];simp
          go_wp2_with (go_at_call 197;refine (HM1.out _ HB.out.1).mono ?_;rintro e w4 ⟨rfl,ok⟩;have HO4:=aA (aB HB.out.1 ok);clear ok)
          go_ret;exact ⟨aC HR.out.symm,HO4.out⟩
        · go_wp2_with (go_at_call 197;refine (HM1.out _ HB.out.1).mono ?_;rintro e w4 ⟨rfl,ok⟩;have HO4:Hid (Below w.heap.size w w4∧BxP w4 w.heap.size s a b c (.slice a1 l1 c1) (.slice a2 l2 c2) (.slice a3 l3 c3)):=⟨aB HB.out.1 ok,HKB.out _ _ HB.out.2 ok⟩;clear ok)
          exact ⟨⟨1,by omega,rfl,HO4.out,(fun _=>trivial),(fun h=>by omega),(fun h=>by omega)⟩,by simp [intOf]⟩
      · have e1':=e1 (by omega)
        subst e1';clear hb e1 e2 e3;cases m2
        · have HR:Hid (SB=false):=by unfold Hid;rw [HSB.out];simp
          go_wp2_with (go_at_call 197;refine (HM2.out _ HB.out.1).mono ?_;rintro e w4 ⟨rfl,ok⟩;have HO4:=aA (aB HB.out.1 ok);clear ok)
          go_ret;exact ⟨aC HR.out.symm,HO4.out⟩
        · go_wp2_with (go_at_call 197;refine (HM2.out _ HB.out.1).mono ?_;rintro e w4 ⟨rfl,ok⟩;have HO4:Hid (Below w.heap.size w w4∧BxP w4 w.heap.size s a b c (.slice a1 l1 c1) (.slice a2 l2 c2) (.slice a3 l3 c3)):=⟨aB HB.out.1 ok,HKB.out _ _ HB.out.2 ok⟩;clear ok)
          exact ⟨⟨2,by omega,rfl,HO4.out,(fun _=>trivial),(fun _=>trivial),(fun h=>by omega)⟩,by simp [intOf]⟩
      · have e1':=e1 (by omega)
        have e2':=e2 (by omega);subst e1' e2';clear hb e1 e2 e3;cases m3
        · have HR:Hid (SB=false):=by unfold Hid;rw [HSB.out];simp
          go_wp2_with (go_at_call 197;refine (HM3.out _ HB.out.1).mono ?_;rintro e w4 ⟨rfl,ok⟩;have HO4:=aA (aB HB.out.1 ok);clear ok)
          go_ret;exact ⟨aC HR.out.symm,HO4.out⟩
        · go_wp2_with (go_at_call 197;refine (HM3.out _ HB.out.1).mono ?_;rintro e w4 ⟨rfl,ok⟩;have HO4:Hid (Below w.heap.size w w4∧BxP w4 w.heap.size s a b c (.slice a1 l1 c1) (.slice a2 l2 c2) (.slice a3 l3 c3)):=⟨aB HB.out.1 ok,HKB.out _ _ HB.out.2 ok⟩;clear ok)
          exact ⟨⟨3,by omega,rfl,HO4.out,(fun _=>trivial),(fun _=>trivial),(fun _=>trivial)⟩,by simp [intOf]⟩
      · have e1':=e1 (by omega)
        have e2':=e2 (by omega);have e3':=e3 (by omega);subst e1' e2' e3';have HR:Hid (SB=ob):=by unfold Hid;rw [HSB.out];simp
        have HEW:=aA (HEO.out rfl rfl rfl);obtain ⟨k0,k1,k2,k3,k4,k5,k6,k7⟩:=HB.out.2;clear hb e1 e2 e3
        go_wp2_with (go_at_call 198;refine (HEW.out _ HB.out.1).mono ?_;rintro e w4 ⟨rfl,ok⟩;have HO4:=aA (aB (aB HB.out.1 (aD _ _)) ok);clear ok)
        go_ret;exact ⟨aC HR.out.symm,HO4.out⟩
end Go.Proofs.YtpfemjlhklnfoaaGreatDoor
namespace Go.Proofs.YtpfemjlhklnfoaaGreatDoor.Sc
open Go.RowKit
set_option maxRecDepth 100000
theorem LW:(Tryz.prog.info? 173).map (·.size)=some 2:=by kernel_rfl
theorem NV:liesAt Tryz.prog Tryz.prog.depth 173 (2 / Tryz.prog.cellsOf 173) 0 173 1=true:=by kernel_rfl
theorem NW:(Tryz.prog.info? 5).map (fun i=>(i.zero,i.size,i.bytes))=some (some (.int .u8 0),1,1):=by kernel_rfl
set_option maxHeartbeats 1600000 in
theorem wE (b:Nat) (w:World) (h0:w.cell? ⟨b,0,none⟩=some (.pointer (some ⟨b,0,none⟩))):
 Calls Tryz.prog 199 #[.pointer (some ⟨b,0,none⟩)] w fun e w'=>e= .returned (.tuple #[])∧w'=w:=by
 obtain ⟨j,hj,_⟩:=Option.map_eq_some_iff.1 LW
 go_enter Tryz.func199,Tryz.ntmps199
 go_wp2
 rw [Lib.run_neq_ptr_same w _ Tryz.underlying170 hj]
 go_wp2
 go_end0
 exact ⟨rfl,rfl⟩
set_option maxHeartbeats 1600000 in
theorem tV (b:Nat) (w:World) (h0:w.cell? ⟨b,0,none⟩=some (.pointer none)) (hsh:w.shape? b=some (173,2)) (hfz:w.frozen? ⟨b,0,none⟩=false):
 Calls Tryz.prog 199 #[.pointer (some ⟨b,0,none⟩)] w fun e w'=>e= .returned (.tuple #[])∧w'=w.setCell ⟨b,0,none⟩ (.pointer (some ⟨b,0,none⟩)):=by
 obtain ⟨j,hj,hjs⟩:=Option.map_eq_some_iff.1 LW
 go_enter Tryz.func199,Tryz.ntmps199
 go_wp2
 rw [Lib.run_to_unsafe w ⟨b,0,none⟩ Tryz.underlying170 Tryz.underlying266 hj (by rw [hjs];decide) hsh (Nat.zero_lt_succ 1)];simp only [Result.andThen];rw [Oper.upon_value]
 go_wp2
 rw [run_callFunc_extern Tryz.func233 (by kernel_rfl) (by kernel_rfl) (by kernel_rfl) (e:=Extern.AbiNoEscape.same) (by kernel_rfl),Lib.run_noEscape];simp only [Result.andThen];rw [Oper.upon_value]
 go_wp2
 rw [Lib.run_from_unsafe w ⟨b,0,none⟩ Tryz.underlying266 Tryz.underlying170 hj hsh NV];simp only [Result.andThen];rw [Oper.upon_value]
 go_wp2
 go_end0
 exact ⟨rfl,rfl⟩
def Bld (B b:Nat) (l:Bs) (w:World):Prop:=Lib.IsBuilder 173 5 B b (Lib.byteCells l) w
end Go.Proofs.YtpfemjlhklnfoaaGreatDoor.Sc
namespace Go.Proofs.YtpfemjlhklnfoaaGreatDoor
open Go.RowKit
set_option maxRecDepth 100000
theorem iR (s:ByteArray):(⟨s.data.toList.toArray⟩:ByteArray)=s:=(yS rfl).symm
theorem jY (x y:ByteArray):(x++y).data.toList=x.data.toList++y.data.toList:=by
 show (x++y).data.toList=_;rw [ByteArray.data_append,Array.toList_append]
theorem fQ {s t:ByteArray} (h:s.data.toList=t.data.toList):s=t:=(yS h).trans (iR t)
theorem BG (s:ByteArray):(⟨#[]⟩:ByteArray)++s=s:=fQ (by rw [jY];rfl)
theorem EU:aH 0 0 0=0:=by decide+kernel
theorem EV:aH 999 999 999=999999999:=by decide+kernel
theorem BH {k M:Int} {p:Int×Int} {A:Rg} (h:RiseR k M (p::A)):k≤p.1∧p.1≤p.2∧p.2≤M∧RiseR (p.2+2) M A:=h
theorem wF {A:Rg} (hl:A.length≤64):(eT A).size≤4096:=by
 cases A with
 |nil=>have:=cB 0 0 0;have z:(⟨#[60]⟩:ByteArray).size=1:=rfl;show (⟨#[60]⟩++aT 0 0 0).size≤4096;rw [bI];omega
 |cons p A=>
  show (⟨(Lib.join ((p::A).map fun p=>(spT p).data.toList) [32,124,124,32]).toArray⟩:ByteArray).size≤4096;rw [nD,List.map_cons,Lib.join_length,←List.map_cons (f:=fun p=>(spT p).data.toList)]
  have:=rJ 27 ((p::A).map fun p=>(spT p).data.toList) (by
   intro x hx;obtain ⟨q,_,rfl⟩:=List.mem_map.1 hx;exact nE _ _ _ _ _ _)
  simp only [List.length_map,List.length_cons,List.length_nil] at*;omega
def FarB (b:Nat) (w w':World):Prop:=∀ N cs t fr,w.heap[N]? =some (.cells cs t fr)→t≠5→N≠b→w'.heap[N]? =some (.cells cs t fr)
theorem FarB.refl (b:Nat) (w:World):FarB b w w:=fun _ _ _ _ h _ _=>h
theorem FarB.trans {b:Nat} {w w1 w2:World} (h:FarB b w w1) (h2:FarB b w1 w2):FarB b w w2:=fun N cs t fr hh ht hn=>h2 N cs t fr (h N cs t fr hh ht hn) ht hn
theorem FarB.set {b:Nat} {w w1:World} (h:FarB b w w1) (i:Nat) (u:Value):FarB b w (w1.setCell ⟨b,i,none⟩ u):=fun N cs t fr hh ht hn=>(Below.heap_setCell _ _ _ _ hn).trans (h N cs t fr hh ht hn)
theorem FarB.below {b:Nat} {w w':World} (h:Below w.heap.size w w'):FarB b w w':=fun N _ _ _ hh _ _=>(h.block N (Array.getElem?_eq_some_iff.1 hh).1).trans hh
theorem BI {B b:Nat} {l:Sc.Bs} {w:World} (h:Sc.Bld B b l w):
 Calls Tryz.prog 199 #[.pointer (some ⟨b,0,none⟩)] w fun e w'=>e= .returned (.tuple #[])∧Lib.BuilderAt 173 5 B b (.pointer (some ⟨b,0,none⟩)) (Lib.byteCells l) w'∧Below B w w'∧FarB b w w':=by
 rcases h with h|h
 · refine (Sc.tV b w h.cell0 h.shape h.frozen0).mono ?_
   rintro e w' ⟨rfl,rfl⟩;exact ⟨rfl,h.used _,(Below.refl B w).setCell (p:=⟨b,0,none⟩) h.1 _,(FarB.refl b w).set _ _⟩
 · refine (Sc.wE b w h.cell0).mono ?_
   rintro e w' ⟨rfl,rfl⟩;exact ⟨rfl,h,Below.refl B _,FarB.refl b _⟩
set_option maxHeartbeats 1600000 in
theorem tW {B b:Nat} {l:Sc.Bs} {w:World} (s:ByteArray) (h:Sc.Bld B b l w) (hl:l.length+s.size≤140737488355328) (hB:B≤w.heap.size):
 Calls Tryz.prog 131 #[.pointer (some ⟨b,0,none⟩),.string s] w fun e w'=>e= .returned (.tuple #[.int .i64 s.size,.nilIface])∧Sc.Bld B b (l++s.data.toList) w'∧Below B w w'∧FarB b w w':=by
 obtain ⟨i0,hi,hz0,hz1,hz2⟩:=Sc.cO Sc.NW;have HC:=aA (BI h);have hlc:(Lib.byteCells l).length=l.length:=Lib.byteCells_length l
 go_enter Tryz.func131,Tryz.ntmps131
 go_wp2_with (go_at_call 199;refine HC.out.mono ?_)
 rintro e w1 ⟨rfl,h1,hb1,hf1⟩;obtain ⟨hBb,v,hbk,hown,hne⟩:=h1;have c0:w1.cell? ⟨b,0,none⟩=some (.pointer (some ⟨b,0,none⟩)):=by rw [Lib.cell_of_heap hbk];rfl
 have c1:w1.cell? ⟨b,1,none⟩=some v:=by rw [Lib.cell_of_heap hbk];rfl
 have hs1:=hb1.size
 go_wp2_with (at_builtin;refine Lib.wpList_append_own_string _ rfl _ _ 171 9 rfl B 5 i0 Tryz.underlying171 Tryz.underlying9 hi hz0 hz1 hz2 _ _ _ rfl hown s rfl (by unfold maxLen;omega) (by omega) (by omega) ?_)
 intro v' w2 hown' hgrow _;have hlt:b<w1.heap.size:=(Array.getElem?_eq_some_iff.1 hbk).1
 have hb2:w2.heap[b]? =some (.cells #[.pointer (some ⟨b,0,none⟩),v] 173 (0,0)):=by
  rw [hgrow.block b hlt (fun e=>hne e.symm)];exact hbk
 have HFA:Hid (FarB b w w2):=fun N cs t fr hh ht hn=>by
  have hN:=hf1 N cs t fr hh ht hn;refine (hgrow.block N (Array.getElem?_eq_some_iff.1 hN).1 (fun e=> ?_)).trans hN
  rcases hown.2 with ⟨hv,_⟩|⟨g,cap,cur,hv,_,hg,_⟩
  · rw [hv] at e;cases e
  · rw [hv] at e
    obtain rfl:N=g:=Option.some.inj e;rw [hN] at hg;injection hg with hg
    injection hg with _ hg _
    exact ht hg
 have d0:w2.cell? ⟨b,0,none⟩=some (.pointer (some ⟨b,0,none⟩)):=by rw [Lib.cell_of_heap hb2];rfl
 have d1:w2.cell? ⟨b,1,none⟩=some v:=by rw [Lib.cell_of_heap hb2];rfl
 have f1:w2.frozen? ⟨b,1,none⟩=false:=Lib.frozen_of_heap hb2 1
 obtain ⟨ao,n',cap,rfl⟩:∃ ao n' cap,v'= .slice ao n' cap:=by
  rcases hown'.2 with ⟨hv,_⟩|⟨g,cap,cur,hv,_⟩
  · exact ⟨_,_,_,hv⟩
  · exact ⟨_,_,_,hv⟩
 clear hf1
 go_wp2
 go_ret2;refine ⟨rfl,Or.inr ?_,?_,HFA.out.set _ _⟩
 · refine Lib.BuilderAt.put (T:=173) (e:=5) hBb hb2 ?_ (by decide)
   rw [Lib.byteCells_append,List.length_append,←Lib.strCells_eq,hlc]
   simpa [Lib.strCells_length] using hown'
 · exact (hb1.grown hgrow (by omega) (fun k hk=>(hown.lt k hk).1)).setCell (p:=⟨b,1,none⟩) hBb _
def eW (x n r:ByteArray):Sc.Bs:=x.data.toList++([32]++(n.data.toList++([32]++(r.data.toList++[10]))))
theorem yZ {B b:Nat} {l:Sc.Bs} {w:World} (h:Sc.Bld B b l w):Calls Tryz.prog 136 #[.pointer (some ⟨b,0,none⟩)] w fun e w'=>e= .returned (.int .i64 l.length)∧w'=w:=by
 obtain ⟨v,c1,hv⟩:∃ v,w.cell? ⟨b,1,none⟩=some v∧∃ ad cap,v= .slice ad l.length cap:=by
  rcases h with ⟨_,v,hbk,hown,_⟩|⟨_,v,hbk,hown,_⟩<;>
  · refine ⟨v,by rw [Lib.cell_of_heap hbk];rfl,?_⟩
    rcases hown.2 with ⟨hv,hn⟩|⟨g,cap,cur,hv,_⟩
    · rw [Lib.byteCells_length] at hn
      exact ⟨none,0,by rw [hv,hn]⟩
    · rw [Lib.byteCells_length] at hv
      exact ⟨_,_,hv⟩
 obtain ⟨ad,cap,rfl⟩:=hv
 go_enter Tryz.func136,Tryz.ntmps136
 go_wp2
 go_ret;exact ⟨rfl,rfl⟩
def plS (s:Sp):Int×Int:=(aH s.a s.b s.c,aH s.x s.y s.z)
theorem EW {A:Rg} (hA:RangeR A):(A.map spR).map plS=A:=by
 rw [List.map_map]
 conv=>rhs;rw [←List.map_id A]
 refine List.map_congr_left fun p hp=> ?_
 obtain ⟨h1,h2,_⟩:=hA.ok p hp;show (aH (atA p.1) (atB p.1) (atC p.1),aH (atA p.2) (atB p.2) (atC p.2))=p;have e1:=(eP (n:=p.1) (by unfold fN;obtain ⟨a,b⟩:=h1;simp;omega)).2;have e2:=(eP (n:=p.2) (by unfold fN;obtain ⟨a,b⟩:=h2;simp;omega)).2;rw [e1,e2]
def prS (L:List Sp):ByteArray:=eT (L.map plS)
theorem BJ {L:List Sp} {u:Value} {w:World} (h:bS L=true) (hu:SpansC w u L) (he:Env w) (hf:FL w):
 Calls Tryz.prog 201 #[u] w fun e w'=>e= .returned (.string (prS L))∧Below w.heap.size w w':=by
 unfold bS at h;rw [Bool.and_eq_true] at h;obtain ⟨A,rfl,hA,hl⟩:=jS.1 h.2;unfold prS;rw [EW hA];exact AY hA hl hu.rg he hf
theorem nP {L:List Sp} (h:bS L=true):(prS L).size≤4096:=by
 unfold bS at h;rw [Bool.and_eq_true] at h;obtain ⟨A,rfl,hA,hl⟩:=jS.1 h.2;unfold prS;rw [EW hA];exact wF hl
def aV (x:ByteArray) (L:List Dp):Sc.Bs:=L.flatMap fun d=>eW x d.nm (prS d.rg)
theorem nQ {x:ByteArray} {L:List Dp} {k:Nat} (h:k<L.length):aV x (L.take (k+1))=aV x (L.take k)++eW x L[k].nm (prS L[k].rg):=by
 unfold aV;rw [List.take_succ_eq_append_getElem h,List.flatMap_append]
 simp
theorem jZ:∀ {L:List Dp} {q:Option ByteArray},bW q L=true→∀ d ∈ L,d.nm.size≤16∧bS d.rg=true
 |[],_,_,d,hd=>by cases hd
 |e::M,q,hq,d,hd=>by
  rw [bW,Bool.and_eq_true,Bool.and_eq_true] at hq
  rcases List.mem_cons.1 hd with rfl|hd
  · have:=hq.1.1
    unfold bX at this;rw [Bool.and_eq_true] at this
    have:=this.1
    unfold Sc.aQ at this;rw [Bool.and_eq_true,decide_eq_true_eq,aX] at this;exact ⟨this.2,hq.1.2⟩
  · exact jZ hq.2 d hd
theorem tX {x n r:ByteArray} (hx:x.size≤16) (hn:n.size≤16) (hr:r.size≤4096):(eW x n r).length≤5000:=by
 unfold eW;simp only [List.length_append,aX,List.length_cons,List.length_nil];omega
theorem cY {x:ByteArray} (hx:x.size≤16) {L:List Dp} (h:aM L=true) (k:Nat):(aV x (L.take k)).length≤80000:=by
 unfold aM at h;rw [Bool.and_eq_true,decide_eq_true_eq] at h
 have:∀ M:List Dp,(∀ d ∈ M,d.nm.size≤16∧bS d.rg=true)→(aV x M).length≤5000*M.length:=by
  intro M
  induction M with
  |nil=>intro _;simp [aV]
  |cons d M ih=>
   intro hM;have h1:=ih fun e he=>hM e (List.mem_cons_of_mem _ he)
   have h2:=tX (x:=x) hx (hM d List.mem_cons_self).1 (nP (hM d List.mem_cons_self).2)
   have:aV x (d::M)=eW x d.nm (prS d.rg)++aV x M:=by unfold aV;simp
   rw [this,List.length_append,List.length_cons];omega
 have h2:=this (L.take k) fun d hd=>jZ h.2 d (List.mem_of_mem_take hd)
 have h3:(L.take k).length≤16:=by rw [List.length_take];omega
 omega
def TW (w1:World) (l:Sc.Bs) (w':World):Prop:=Sc.Bld w1.heap.size w1.heap.size l w'∧Below w1.heap.size w1 w'
theorem BK {B b:Nat} {l:Sc.Bs} {w w':World} (h:Sc.Bld B b l w) (hb:Below w.heap.size w w'):Sc.Bld B b l w':=by
 have step:∀ p,Lib.BuilderAt 173 5 B b p (Lib.byteCells l) w→Lib.BuilderAt 173 5 B b p (Lib.byteCells l) w':=by
  rintro p ⟨hB,v,hbk,hown,hne⟩;refine ⟨hB,v,(hb.block b (Array.getElem?_eq_some_iff.1 hbk).1).trans hbk,⟨hown.1,hown.2.imp id ?_⟩,hne⟩;rintro ⟨g,cap,cur,rfl,h1,hg,h2⟩;exact ⟨g,cap,cur,rfl,h1,(hb.block g (Array.getElem?_eq_some_iff.1 hg).1).trans hg,h2⟩
 exact h.imp (step _) (step _)
theorem eX (w1:World) (l:Sc.Bs):KeepP (TW w1 l):=fun _ _ h hb=>⟨BK h.1 hb,aB h.2 hb⟩
theorem TW.new (w1:World):TW w1 [] (w1.alloc (.cells #[.pointer none,.slice none 0 0] 173)):=⟨Lib.fresh_isBuilder _ _ w1,aD _ _⟩
theorem TW.far {w1:World} {l:Sc.Bs} {w':World} (h:TW w1 l w'):w1.heap.size<w'.heap.size:=by
 rcases h.1 with h|h<;>exact h.lt
theorem TW.put {w1 wz:World} {l:Sc.Bs} (h:TW w1 l wz) (s:ByteArray) (hl:l.length≤1000000000) (hs:s.size≤1000000):
 Calls Tryz.prog 131 #[.pointer (some ⟨w1.heap.size,0,none⟩),.string s] wz fun e w'=>e= .returned (.tuple #[.int .i64 s.size,.nilIface])∧TW w1 (l++s.data.toList) w'∧FarB w1.heap.size wz w':=by
 refine (tW s h.1 (by omega) h.2.size).mono ?_;rintro e w' ⟨rfl,g1,g2,g3⟩;exact ⟨rfl,⟨g1,h.2.trans g2⟩,g3⟩
set_option maxHeartbeats 6400000 in
theorem pW {w1 wz:World} {l:Sc.Bs} {v:Value} {L:List Dp} {x:ByteArray} (h:TW w1 l wz) (hd:DepsAt w1 v L) (hm:aM L=true) (he:Env w1) (hf:FL w1) (hx:x.size≤16) (hl:l.length≤1000000):
 Calls Tryz.prog 135 #[.pointer (some ⟨w1.heap.size,0,none⟩),.string x,v] wz fun e w'=>e= .returned (.tuple #[])∧TW w1 (l++aV x L) w'∧FarB w1.heap.size wz w':=by
 have HD:Hid (∀ w',Below w1.heap.size w1 w'→DepsAt w' v L):=fun w' hb=>hd.below hb
 have HSP:Hid (∀ w2 u (R:List Sp),Below w1.heap.size w1 w2→bS R=true→SpansC w2 u R→Calls Tryz.prog 201 #[u] w2 fun e w'=>e= .returned (.string (prS R))∧Below w2.heap.size w2 w'):=fun w2 u R hb hr hu=>BJ hr hu (he.below hb) (hf.below hb)
 have HAll:Hid (∀ d ∈ L,d.nm.size≤16∧bS d.rg=true):=by
  have:=hm
  unfold aM at this;rw [Bool.and_eq_true] at this;exact jZ this.2
 have HLN:=aA (cY hx hm);have h16:=(bH hm).1
 have HPU:Hid (∀ (l1:Sc.Bs) w2 (s:ByteArray) (N:Nat) (bx:Obj),(TW w1 l1 w2∧FarB w1.heap.size wz w2)∧(w2.heap[N]? =some bx∧(∃ cs,bx= .cells cs 89 (0,0))∧w1.heap.size<N)→l1.length≤2000000→s.size≤1000000→Calls Tryz.prog 131 #[.pointer (some ⟨w1.heap.size,0,none⟩),.string s] w2 fun e w'=>e= .returned (.tuple #[.int .i64 s.size,.nilIface])∧(TW w1 (l1++s.data.toList) w'∧FarB w1.heap.size wz w')∧(w'.heap[N]? =some bx∧(∃ cs,bx= .cells cs 89 (0,0))∧w1.heap.size<N)):=fun l1 w2 s N bx h1 h2 h3=>by
  refine (h1.1.1.put s (by omega) h3).mono ?_;rintro e w' ⟨rfl,g1,g2⟩;obtain ⟨cs,rfl⟩:=h1.2.2.1;exact ⟨rfl,⟨g1,h1.1.2.trans g2⟩,g2 _ _ _ _ h1.2.1 (by decide) (by have:=h1.2.2.2;omega),⟨cs,rfl⟩,h1.2.2.2⟩
 have HT0:Hid (TW w1 l wz∧FarB w1.heap.size wz wz):=⟨h,FarB.refl _ _⟩;obtain ⟨ad,cap,rfl,hcp⟩:=hd.len;clear hd hm he hf h
 go_enter Tryz.func135,Tryz.ntmps135
 go_wp2_with fail
 go_loopw [10] (fun j wq=>∃ m:Nat,m≤L.length∧j= .int .i64 m∧TW w1 (l++aV x (L.take m)) wq∧FarB w1.heap.size wz wq) (fun j _=>L.length - (intOf j).toNat)
 case atStart=>exact ⟨0,Nat.zero_le _,rfl,by have:=HT0.out;simpa [aV] using this⟩
 case round=>
  clear HT0;obtain ⟨m,hm,rfl,htq⟩:=hrel;have HTQ:=aA htq
  by_cases hlt:m<L.length
  · obtain ⟨ad',cap',e,_,hcs⟩:=HD.out wr htq.1.2
    cases e
    obtain ⟨g,o,rfl,hg,hcs⟩:∃ g o,ad=some ⟨g,o,none⟩∧g<wr.heap.size∧∀ i (h:i<L.length),∃ u,DpIn wr g (o+i*2) L[i] u:=by
     rcases hcs with h|h
     · rw [h] at hlt;simp at hlt
     · exact h
    obtain ⟨u,p0,p1,⟨hu,_⟩,p3⟩:=hcs m hlt;obtain ⟨au,cu,rfl⟩:=hu.1.sl;obtain ⟨hnz2,hrb⟩:=HAll.out _ (List.getElem_mem hlt);have hpz:=nP hrb;have HSN:=aA (nQ (x:=x) hlt)
    have hpl:(l++aV x (L.take m)).length≤1100000:=by
     have h1:=HLN.out m;rw [List.length_append];omega
    have HUS:Hid (SpansC (wr.alloc (.cells #[.string L[m].nm,.slice au L[m].rg.length cu] 89)) (.slice au L[m].rg.length cu) L[m].rg):=⟨hu.1.below (aD _ _),hu.2⟩;have HUB:Hid (g<wr.heap.size):=hg;have HSPd:=aA (fun w' (hb:Below w1.heap.size w1 w') (hc:SpansC w' (.slice au L[m].rg.length cu) L[m].rg)=>HSP.out w' _ _ hb hrb hc)
    have HO0:Hid ((TW w1 (l++aV x (L.take m)) (wr.alloc (.cells #[.string L[m].nm,.slice au L[m].rg.length cu] 89))∧FarB w1.heap.size wz (wr.alloc (.cells #[.string L[m].nm,.slice au L[m].rg.length cu] 89)))∧((wr.alloc (.cells #[.string L[m].nm,.slice au L[m].rg.length cu] 89)).heap[wr.heap.size]? =some (.cells #[.string L[m].nm,.slice au L[m].rg.length cu] 89 (0,0))∧(∃ cs,(Obj.cells #[.string L[m].nm,.slice au L[m].rg.length cu] 89 (0,0))= .cells cs 89 (0,0))∧w1.heap.size<wr.heap.size)):=by
     refine ⟨⟨eX _ _ _ _ htq.1 (aD _ _),htq.2.trans (FarB.below (aD _ _))⟩,?_,⟨_,rfl⟩,htq.1.far⟩;show (wr.heap.push _)[wr.heap.size]? =_;rw [Array.getElem?_push,if_pos rfl]
    have HUK:Hid (KeepP fun w'=>SpansC w' (.slice au L[m].rg.length cu) L[m].rg):=fun _ _ h hb=>⟨h.1.below hb,h.2⟩
    have HUW:Hid (∀ w',Below w1.heap.size w1 w'→SpansC w' (.slice au L[m].rg.length cu) L[m].rg):=fun w' hb=>by
     obtain ⟨ad2,cap2,e2,_,hcs2⟩:=HD.out w' hb;cases e2
     rcases hcs2 with h2|⟨g2,o2,e3,hg2,hcs2⟩
     · rw [h2] at hlt;simp at hlt
     · cases e3
       obtain ⟨u2,q0,q1,⟨hu2,_⟩,q3⟩:=hcs2 m hlt;obtain ⟨ad3,cap3,e4,_,hcs3⟩:=HD.out w1 (Below.refl _ _);cases e4
       rcases hcs3 with h4|⟨g4,o4,e5,hg4,hcs4⟩
       · rw [h4] at hlt;simp at hlt
       · cases e5
         obtain ⟨u5,r0,r1,_,_⟩:=hcs4 m hlt;have t1:=(hb.cell (p:=⟨g,o+m*2+1,none⟩) hg4).trans r1;have t2:=(HTQ.out.1.2.cell (p:=⟨g,o+m*2+1,none⟩) hg4).trans r1;rw [q1] at t1;rw [p1] at t2;cases t1;cases t2;exact hu2
    clear hcs hu htq;generalize prS L[m].rg=rt at*;generalize L[m].rg.length=lu at*;generalize L[m].nm=s at*;generalize hlm:l++aV x (L.take m)=lm at*;have HLM:=aA hlm;clear hlm;have l1:(lm++x.data.toList).length≤1100016:=by rw [List.length_append,aX];omega
    have l2:(lm++x.data.toList++[32]).length≤1100017:=by rw [List.length_append];simp at l1 ⊢;omega
    have l3:(lm++x.data.toList++[32]++s.data.toList).length≤1100033:=by rw [List.length_append,aX];omega
    have l4:(lm++x.data.toList++[32]++s.data.toList++[32]).length≤1100034:=by rw [List.length_append];simp at l3 ⊢;omega
    have l5:(lm++x.data.toList++[32]++s.data.toList++[32]++rt.data.toList).length≤1200000:=by rw [List.length_append,aX];omega
    go_wp2_with (first
     |(have _h:=HO0;go_at_call 131;refine (HPU.out _ _ x _ _ HO0.out (by omega) (by omega)).mono ?_;rintro e w2 ⟨rfl,ok⟩;have HO1:=aA ok;clear ok HO0)
     |(have _h:=HO1;go_at_call 131;refine (HPU.out _ _ ⟨#[32]⟩ _ _ HO1.out (Nat.le_trans l1 (by decide)) (by decide)).mono ?_;rintro e w3 ⟨rfl,ok⟩;have HO2:=aA ok;clear ok HO1;have d0:w3.cell? ⟨wr.heap.size,0,none⟩=some (.string s):=(by rw [Lib.cell_of_heap HO2.out.2.1];rfl))
     |(have _h:=HO2;go_at_call 131;refine (HPU.out _ _ s _ _ HO2.out (Nat.le_trans l2 (by decide)) (by omega)).mono ?_;rintro e w4 ⟨rfl,ok⟩;have HO3:=aA ok;clear ok HO2 d0)
     |(have _h:=HO3;go_at_call 131;refine (HPU.out _ _ ⟨#[32]⟩ _ _ HO3.out (Nat.le_trans l3 (by decide)) (by decide)).mono ?_;rintro e w5 ⟨rfl,ok⟩;have HO4:=aA ok;clear ok HO3;have d1:w5.cell? ⟨wr.heap.size,1,none⟩=some (.slice au lu cu):=(by rw [Lib.cell_of_heap HO4.out.2.1];rfl))
     |(have _h:=HO4;go_at_call 201;refine (HSPd.out _ HO4.out.1.1.2 (HUW.out _ HO4.out.1.1.2)).mono ?_;rintro e w6 ⟨rfl,ok⟩;have HO5:Hid ((TW w1 (lm++x.data.toList++[32]++s.data.toList++[32]) w6∧FarB w1.heap.size wz w6)∧(w6.heap[wr.heap.size]? =some (.cells #[.string s,.slice au lu cu] 89 (0,0))∧(∃ cs,(Obj.cells #[.string s,.slice au lu cu] 89 (0,0))= .cells cs 89 (0,0))∧w1.heap.size<wr.heap.size)):=⟨⟨eX _ _ _ _ HO4.out.1.1 ok,HO4.out.1.2.trans (FarB.below ok)⟩,(ok.block wr.heap.size (Array.getElem?_eq_some_iff.1 HO4.out.2.1).1).trans HO4.out.2.1,HO4.out.2.2⟩;clear ok HO4 d1)
     |(have _h:=HO5;go_at_call 131;refine (HPU.out _ _ rt _ _ HO5.out (Nat.le_trans l4 (by decide)) (by omega)).mono ?_;rintro e w7 ⟨rfl,ok⟩;have HO6:=aA ok;clear ok HO5)
     |(have _h:=HO6;go_at_call 131;refine (HPU.out _ _ ⟨#[10]⟩ _ _ HO6.out (Nat.le_trans l5 (by decide)) (by decide)).mono ?_;rintro e w8 ⟨rfl,ok⟩;have HO7:=aA ok;clear ok HO6))
    refine ⟨⟨m+1,by omega,by go_num,?_,HO7.out.1.2⟩,by simp [intOf];omega⟩;have e:l++aV x (L.take (m+1))=lm++x.data.toList++[32]++s.data.toList++[32]++rt.data.toList++[10]:=by rw [HSN.out,←HLM.out];unfold eW;simp
    rw [e];exact HO7.out.1.1
  · have HTN:Hid (TW w1 (l++aV x L) wr∧FarB w1.heap.size wz wr):=by
     have:=HTQ.out
     rw [List.take_of_length_le (by omega)] at this;exact this
    clear htq
    go_wp2
    go_end0
    exact ⟨rfl,HTN.out.1,HTN.out.2⟩
end Go.Proofs.YtpfemjlhklnfoaaGreatDoor
