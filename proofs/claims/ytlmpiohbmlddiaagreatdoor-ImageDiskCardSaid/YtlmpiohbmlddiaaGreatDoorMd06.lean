/- Pk3, Pk4, ScBd1, Tx6, Wr1, Pk6, Pk7: their declarations that are needed, laid in one text, remarks and blanks left out. -/
import Derived.Maps.Own
import Derived.Maps.Views
import Derived.Shelf.Strings.Builder1
import Derived.Test.YtlmpiohbmlddiaaGreatDoorScC
import Derived.Laws.RangeAny
import Derived.Lib.OthersKept
import Derived.Lib.IndexMore
import Derived.Lib.CountLaws
import Derived.Test.YtlmpiohbmlddiaaGreatDoorMd05
namespace Go.Proofs.YtlmpiohbmlddiaaGreatDoor
open Go.RowKit
set_option maxRecDepth 100000
def ltS (s t:ByteArray):Bool:=Op.bytesLess s.toList t.toList
def cS (q:Option ByteArray) (s:ByteArray):Bool:=Sc.aG s.data.toList&&(match q with
 |none=>true
 |some p=>ltS p s)
def cQ (L:List Sp):Bool:=decide (0<L.length)&&gN L
def fR:Option ByteArray→List Dp→Bool
 |_,[]=>true
 |q,d::r=>cS q d.nm&&cQ d.rg&&fR (some d.nm) r
def bN (L:List Dp):Bool:=decide (L.length≤16)&&fR none L
def eY (L:List Dp):Option ByteArray:=L.getLast?.map (·.nm)
theorem DepsAt.len {w:World} {v:Value} {L:List Dp} (h:DepsAt w v L):∃ ad cap,v= .slice ad L.length cap∧L.length≤cap:=by
 obtain ⟨ad,cap,rfl,h,_⟩:=h;exact ⟨ad,cap,rfl,h⟩
theorem tC {v:Value} {L:List Sp} {w:World} (h:SpansAt w v L):
 Calls Tryz.prog 240 #[v] w fun e w'=>e= .returned (.bool (cQ L))∧Below w.heap.size w w':=by
 have HM:=aB (uU h);obtain ⟨ad,cap,rfl⟩:=h.sl;clear h
 by_cases h0:0<L.length
 · have HR:Hid (cQ L=gN L):=by unfold Hid cQ;simp [h0]
   go_enter Tryz.func240,Tryz.ntmps240
   go_wp2_with (go_at_call 241;refine HM.out.mono ?_;rintro e w1 ⟨rfl,ok⟩)
   go_ret;exact ⟨aC HR.out.symm,ok⟩
 · have HR:Hid (cQ L=false):=by unfold Hid cQ;simp [h0]
   go_enter Tryz.func240,Tryz.ntmps240
   go_wp2
   go_ret;exact ⟨aC HR.out.symm,Below.refl _ _⟩
theorem qV {va:Value} {A:List Dp} {w:World} (h:DepsAt w va A) (hl:A.length≤1000000000000) (s:ByteArray):
 Calls Tryz.prog 239 #[va,.string s] w fun e w'=>e= .returned (.bool (cS (eY A) s))∧w'=w:=by
 have HN:Hid (Calls Tryz.prog 53 #[.string s] w fun e w'=>e= .returned (.bool (Sc.aG s.data.toList))∧w'=w):=Sc.cT s w;cases hn:Sc.aG s.data.toList
 · have HR:Hid (cS (eY A) s=false):=by unfold Hid cS;rw [hn];rfl
   rw [hn] at HN;obtain ⟨ad,cap,rfl⟩:=h.sl;clear h
   go_enter Tryz.func239,Tryz.ntmps239
   go_wp2_with (go_at_call 53;refine HN.out.mono ?_;rintro e w1 ⟨rfl,rfl⟩)
   go_ret;exact ⟨aC HR.out.symm,rfl⟩
 · rw [hn] at HN
   rcases List.eq_nil_or_concat A with rfl|⟨B,d,rfl⟩
   · have HR:Hid (cS (eY []) s=true):=by unfold Hid cS;rw [hn];rfl
     obtain ⟨ad,cap,rfl⟩:=h.sl;clear h
     go_enter Tryz.func239,Tryz.ntmps239
     go_wp2_with (go_at_call 53;refine HN.out.mono ?_;rintro e w1 ⟨rfl,rfl⟩)
     go_ret;exact ⟨aC HR.out.symm,rfl⟩
   · have HR:Hid (cS (eY (B++[d])) s=Op.bytesLess d.nm.toList s.toList):=by unfold Hid cS eY;rw [hn];simp [ltS]
     rw [List.concat_eq_append] at*;obtain ⟨ad,cap,rfl,hc,hs⟩:=h
     rcases hs with hs|⟨g,o,rfl,hg,hs⟩
     · simp at hs
     · obtain ⟨u,c0,hrest⟩:=hs B.length (by simp)
       clear hrest hs;simp only [List.getElem_concat_length] at c0;have hlen:(B++[d]).length=B.length+1:=by simp
       rw [hlen] at hl hc ⊢;generalize B.length=m at*;have w1:IntKind.i64.wrap (((m+1:Nat):Int) - 1)=(m:Int):=by rw [IntKind.wrap_i64];omega
       go_enter Tryz.func239,Tryz.ntmps239
       go_wp2_with (go_at_call 53;refine HN.out.mono ?_;rintro e w1 ⟨rfl,rfl⟩)
       go_ret;exact ⟨aC HR.out.symm,rfl⟩
theorem DepsAt.take {w:World} {ad:Option Addr} {cap:Nat} {L:List Dp} (h:DepsAt w (.slice ad L.length cap) L) {k:Nat} (hk:k≤L.length):DepsAt w (.slice ad k cap) (L.take k):=by
 obtain ⟨ad',cap',e,hc,hs⟩:=h;cases e;refine ⟨ad,cap,by simp [Nat.min_eq_left hk],by simp;omega,?_⟩
 rcases hs with rfl|⟨g,o,rfl,hg,hs⟩
 · exact Or.inl (by simp)
 · refine Or.inr ⟨g,o,rfl,hg,fun i hi=> ?_⟩
   have hi':i<L.length:=by simp at hi;omega
   obtain ⟨u,hu⟩:=hs i hi';exact ⟨u,by simpa using hu⟩
theorem zP {L:List Dp} {k:Nat} (h:k<L.length):eY (L.take (k+1))=some L[k].nm:=by
 unfold eY;rw [List.take_succ_eq_append_getElem h,List.getLast?_concat];rfl
def KM (w:World) (N:Nat) (s:ByteArray) (u:Value) (d:Dp) (va:Value) (A:List Dp) (w1:World):Prop:=Below w.heap.size w w1∧BxD w1 N s u∧SpansAt w1 u d.rg∧DepsAt w1 va A
theorem RC (w:World) (N:Nat) (s:ByteArray) (u:Value) (d:Dp) (va:Value) (A:List Dp):KeepP (KM w N s u d va A):=(aO w).and ((NQ _ _ _).and ((EK _ _).and (JB _ _)))
set_option maxHeartbeats 3200000 in
theorem tD (L:List Dp) (hlen:L.length≤16) (g o cap:Nat) (w:World) (h:DepsAt w (.slice (some ⟨g,o,none⟩) L.length cap) L) (hs:∀ i (h:i<L.length),∃ u,DpIn w g (o+i*2) L[i] u):
 Calls Tryz.prog 197 #[.slice (some ⟨g,o,none⟩) L.length cap] w fun e w'=>e= .returned (.bool (bN L))∧Below w.heap.size w w':=by
 have HL:Hid (∀ w1,Below w.heap.size w w1→∀ i (h:i<L.length),∃ u,DpIn w1 g (o+i*2) L[i] u):=fun w1 hb i hi=>(hs i hi).imp fun u h=>h.below hb
 have HD:Hid (∀ w1,Below w.heap.size w w1→∀ k,k≤L.length→DepsAt w1 (.slice (some ⟨g,o,none⟩) k cap) (L.take k)):=fun w1 hb k hk=>(h.below hb).take hk
 have HT:Hid (bN L=fR none L):=by unfold Hid bN;simp [hlen]
 have hcap:L.length≤cap:=by obtain ⟨_,_,e,hc,_⟩:=h;cases e;exact hc
 have h16:decide ((16:Int)<(L.length:Int))=false:=decide_eq_false (by omega);clear h hs
 go_enter Tryz.func197,Tryz.ntmps197
 go_wp2_with fail
 go_loopw [10] (fun i wr=>∃ k:Nat,k≤L.length∧i= .int .i64 k∧Below w.heap.size w wr∧fR none L=fR (eY (L.take k)) (L.drop k)) (fun i _=>L.length - (intOf i).toNat)
 case atStart=>exact ⟨0,Nat.zero_le _,rfl,Below.refl _ _,rfl⟩
 case round=>
  obtain ⟨k,hk,rfl,hb,hall⟩:=hrel;have HALL:=aB hall;have HB:=aB hb;clear hall
  by_cases hlt:k<L.length
  · obtain ⟨u,c0,c1,⟨⟨hu,_⟩,_⟩,cg⟩:=HL.out wr hb k hlt
    have hd:=HD.out wr hb k hk;have hkc:(k:Int)≤(cap:Int):=by omega
    have hc0:¬ (cap=0):=by omega
    obtain ⟨ad,uc,rfl⟩:=hu.sl;have hdr:L.drop k=L[k]::L.drop (k+1):=List.drop_eq_getElem_cons hlt
    have HST:Hid (fR none L=(cS (eY (L.take k)) L[k].nm&&cQ L[k].rg&&fR (eY (L.take (k+1))) (L.drop (k+1)))):=by
     unfold Hid;rw [HALL.out,hdr,zP hlt];rfl
    have HO:Hid (KM w wr.heap.size L[k].nm (.slice ad L[k].rg.length uc) L[k] (.slice (some ⟨g,o,none⟩) k cap) (L.take k) (wr.alloc (.cells #[.string L[k].nm,.slice ad L[k].rg.length uc] 170))):=⟨aA hb (aD _ _),BxD.new rfl _ _,hu.below (aD _ _),hd.below (aD _ _)⟩;have HK:Hid (KeepP (KM w wr.heap.size L[k].nm (.slice ad L[k].rg.length uc) L[k] (.slice (some ⟨g,o,none⟩) k cap) (L.take k))):=RC _ _ _ _ _ _ _;have HF:Hid (∀ w1,KM w wr.heap.size L[k].nm (.slice ad L[k].rg.length uc) L[k] (.slice (some ⟨g,o,none⟩) k cap) (L.take k) w1→Calls Tryz.prog 239 #[.slice (some ⟨g,o,none⟩) k cap,.string L[k].nm] w1 fun e w'=>e= .returned (.bool (cS (eY (L.take k)) L[k].nm))∧Below w1.heap.size w1 w'):=fun w1 hk1=>(qV hk1.2.2.2 (by simp;omega) _).mono fun e w' ⟨h1,h2⟩=>⟨h1,by rw [h2];exact Below.refl _ _⟩
    have HG:Hid (∀ w1,KM w wr.heap.size L[k].nm (.slice ad L[k].rg.length uc) L[k] (.slice (some ⟨g,o,none⟩) k cap) (L.take k) w1→Calls Tryz.prog 240 #[.slice ad L[k].rg.length uc] w1 fun e w'=>e= .returned (.bool (cQ L[k].rg))∧Below w1.heap.size w1 w'):=fun w1 hk1=>tC hk1.2.2.1
    clear hu hd hdr HALL hb;generalize cS (eY (L.take k)) L[k].nm=bf at*;generalize cQ L[k].rg=bg at*;generalize L[k].rg.length=n at*;generalize L[k].nm=s at*;generalize L[k]=d at*;cases bf
    · have HR:Hid (bN L=false):=by unfold Hid;rw [HT.out,HST.out];rfl
      clear HST HG
      go_wp2_with fail
      refine cI HK (by kernel_rfl) (by kernel_rfl) (by first|exact HO.out|exact HK.out.drew HO.out) ?_;intro C HIN HOUT;clear HO
      repeat
       (with_reducible refine wpQuiet_step (fun K hK=> ?_)
        go_simp
        first
         |(refine hK _ ?_;clear hK K)
         |(apply Exists.intro;refine ⟨fun w1 hC=> ?_,hK _ ?_⟩;(focus ((first|(go_at_call 239;with_reducible exact bA HIN HOUT HK HF.out w1 hC)|(exact rfl)|(obtain ⟨hb1,⟨k0,k1,k2⟩,hs1,hd1⟩:=HOUT.out w1 hC;clear hC;go_simp;first|done|exact rfl));done));clear hK K))
      refine wpQuiet_nil ?_;intro wn hC;have HO:=aB (HOUT.out _ hC);clear hC HIN HOUT C;obtain ⟨hb1,⟨k0,k1,k2⟩,hs1,hd1⟩:=HO.out
      go_wp2
      go_ret;exact ⟨aC HR.out.symm,HO.out.1⟩
    · cases bg
      · have HR:Hid (bN L=false):=by unfold Hid;rw [HT.out,HST.out];rfl
        clear HST
        go_wp2_with fail
        refine cI HK (by kernel_rfl) (by kernel_rfl) (by first|exact HO.out|exact HK.out.drew HO.out) ?_;intro C HIN HOUT;clear HO
        repeat
         (with_reducible refine wpQuiet_step (fun K hK=> ?_)
          go_simp
          first
           |(refine hK _ ?_;clear hK K)
           |(apply Exists.intro;refine ⟨fun w1 hC=> ?_,hK _ ?_⟩;(focus ((first|(go_at_call 239;with_reducible exact bA HIN HOUT HK HF.out w1 hC)|(go_at_call 240;with_reducible exact bA HIN HOUT HK HG.out w1 hC)|(exact rfl)|(obtain ⟨hb1,⟨k0,k1,k2⟩,hs1,hd1⟩:=HOUT.out w1 hC;clear hC;go_simp;first|done|exact rfl));done));clear hK K))
        refine wpQuiet_nil ?_;intro wn hC;have HO:=aB (HOUT.out _ hC);clear hC HIN HOUT C;obtain ⟨hb1,⟨k0,k1,k2⟩,hs1,hd1⟩:=HO.out
        go_wp2
        go_ret;exact ⟨aC HR.out.symm,HO.out.1⟩
      · have HR:Hid (fR none L=fR (eY (L.take (k+1))) (L.drop (k+1))):=by unfold Hid;rw [HST.out];rfl
        clear HST
        go_wp2_with fail
        refine cI HK (by kernel_rfl) (by kernel_rfl) (by first|exact HO.out|exact HK.out.drew HO.out) ?_;intro C HIN HOUT;clear HO
        repeat
         (with_reducible refine wpQuiet_step (fun K hK=> ?_)
          go_simp
          first
           |(refine hK _ ?_;clear hK K)
           |(apply Exists.intro;refine ⟨fun w1 hC=> ?_,hK _ ?_⟩;(focus ((first|(go_at_call 239;with_reducible exact bA HIN HOUT HK HF.out w1 hC)|(go_at_call 240;with_reducible exact bA HIN HOUT HK HG.out w1 hC)|(exact rfl)|(obtain ⟨hb1,⟨k0,k1,k2⟩,hs1,hd1⟩:=HOUT.out w1 hC;clear hC;go_simp;first|done|exact rfl));done));clear hK K))
        refine wpQuiet_nil ?_;intro wn hC;have HO:=aB (HOUT.out _ hC);clear hC HIN HOUT C;obtain ⟨hb1,⟨k0,k1,k2⟩,hs1,hd1⟩:=HO.out
        go_wp2
        exact ⟨⟨k+1,by omega,by go_num,HO.out.1,HR.out⟩,by simp [intOf];omega⟩
  · have hke:k=L.length:=by omega
    subst hke;have HR:Hid (bN L=true):=by unfold Hid;rw [HT.out,HALL.out];simp [fR]
    clear hb
    go_wp2
    go_ret;exact ⟨aC HR.out.symm,HB.out⟩
theorem tE (ad:Option Addr) (n cap:Nat) (h:16<n) (w:World):
 Calls Tryz.prog 197 #[.slice ad n cap] w fun e w'=>e= .returned (.bool false)∧Below w.heap.size w w':=by
 have hn:(16:Int)<(n:Int):=by omega
 go_enter Tryz.func197,Tryz.ntmps197
 go_wp2
 go_ret;exact ⟨rfl,Below.refl _ _⟩
theorem vN (ad:Option Addr) (cap:Nat) (w:World):
 Calls Tryz.prog 197 #[.slice ad 0 cap] w fun e w'=>e= .returned (.bool true)∧Below w.heap.size w w':=by
 go_enter Tryz.func197,Tryz.ntmps197
 go_wp2_with fail
 go_loop [10] (fun i=>i= .int .i64 0) (fun _=>0)
 case atStart=>rfl
 case round=>
  subst hrel
  go_wp2
  go_ret;exact ⟨rfl,Below.refl _ _⟩
theorem cV {v:Value} {L:List Dp} {w:World} (h:DepsAt w v L):
 Calls Tryz.prog 197 #[v] w fun e w'=>e= .returned (.bool (bN L))∧Below w.heap.size w w':=by
 have h':=h;obtain ⟨ad,cap,rfl,hc,hs⟩:=h'
 by_cases h16:L.length≤16
 · rcases hs with rfl|⟨g,o,rfl,hg,hs⟩
   · exact vN _ _ w
   · exact tD L h16 g o cap w h hs
 · have:bN L=false:=by unfold bN;simp [h16]
   rw [this];exact tE _ _ _ (by omega) w
end Go.Proofs.YtlmpiohbmlddiaaGreatDoor
namespace Go.Proofs.YtlmpiohbmlddiaaGreatDoor
open Go.RowKit Go.Maps Go.WideMaps Go.WideElems
set_option maxRecDepth 100000
def mU (s:ByteArray):Lit:= .string s.data.toList
theorem JK {s t:ByteArray} (h:mU s=mU t):s=t:=by
 unfold mU at h;injection h with h
 exact aY (by rw [ByteArray.toList_eq,ByteArray.toList_eq,h])
theorem zQ (s:ByteArray):WideAt.IsKeyLit (mU s):=by unfold mU WideAt.IsKeyLit;trivial
theorem oJ:Keyed Tryz.prog 9:=string_keyed Tryz.underlying9
theorem RD {s:ByteArray} (hs:s.size≤maxLen):keyOf Tryz.prog 9 (.string s)=some (mU s):=keyOf_string_mk Tryz.underlying9 hs
theorem tF (w:World):(zeroValue 3).run Tryz.prog w= .ok (.int .i64 0) w:=by kernel_rfl
def CntD (D:DataW Unit) (done:List ByteArray):Prop:=IsMap D∧∀ s:ByteArray,(s ∈ done→D.atKey (mU s) (.lit (.int .i64 0))= .lit (.int .i64 1))∧(s ∉ done→D.atKey (mU s) (.lit (.int .i64 0))= .lit (.int .i64 0))
theorem CntD.nil:CntD (.map []) []:=⟨⟨[],rfl⟩,fun _=>⟨fun h=>(by cases h),fun _=>rfl⟩⟩
theorem lM {D:DataW Unit} (h:IsMap D) (k:Lit) (d:DataW Unit):IsMap (D.put k d):=by
 obtain ⟨es,rfl⟩:=h;exact ⟨_,rfl⟩
theorem CntD.put {D:DataW Unit} {done:List ByteArray} (h:CntD D done) {s:ByteArray}:CntD (D.put (mU s) (.lit (.int .i64 1))) (done++[s]):=by
 refine ⟨lM h.1 _ _,fun t=> ?_⟩
 by_cases e:t=s
 · subst e
   rw [atKey_put_same h.1 (zQ t)];exact ⟨fun _=>rfl,fun hn=>absurd (by simp) hn⟩
 · rw [atKey_put_other fun k=>e (JK k)]
   exact ⟨fun hm=>(h.2 t).1 (by simpa [e] using hm),fun hn=>(h.2 t).2 (by simpa [e] using hn)⟩
def tG (w:World) (g o:Nat) (Ls:List (List Dp)):Prop:=g<w.heap.size∧∀ k (h:k<Ls.length),∃ u,w.cell? ⟨g,o+k,none⟩=some u∧DepsAt w u Ls[k]
def fT (Ls:List (List Dp)):List ByteArray:=Ls.flatten.map Dp.nm
noncomputable def eZ (Ls:List (List Dp)):Bool:= @decide ((fT Ls).Nodup) (Classical.propDecidable _)
theorem NU {Ls:List (List Dp)} {done rest:List ByteArray} {s:ByteArray} (h:fT Ls=done++s::rest) (hs:s ∈ done):eZ Ls=false:=by
 unfold eZ;refine @decide_eq_false _ (Classical.propDecidable _) fun hn=> ?_
 rw [h,List.nodup_append] at hn;exact hn.2.2 s hs s List.mem_cons_self rfl
theorem JL {Ls:List (List Dp)} (h:(fT Ls).Nodup):eZ Ls=true:=by unfold eZ;exact @decide_eq_true _ (Classical.propDecidable _) h
theorem zR {l:List ByteArray} {s:ByteArray} (h:l.Nodup) (hs:s ∉ l):(l++[s]).Nodup:=by
 rw [List.nodup_append];refine ⟨h,by simp,?_⟩;intro a ha b hb e;rw [List.mem_singleton] at hb;subst hb e;exact hs ha
def iG (L:List Dp):Prop:=L.length≤16∧∀ d ∈ L,d.nm.size≤16
theorem cP {L:List Dp} (h:bN L=true):iG L:=by
 unfold bN at h;rw [Bool.and_eq_true,decide_eq_true_eq] at h;refine ⟨h.1,?_⟩
 have:∀ (M:List Dp) (q:Option ByteArray),fR q M=true→∀ d ∈ M,d.nm.size≤16:=by
  intro M
  induction M with
  |nil=>intro q _ d hd;cases hd
  |cons e M ih=>
   intro q hq d hd;rw [fR,Bool.and_eq_true,Bool.and_eq_true] at hq
   rcases List.mem_cons.1 hd with rfl|hd
   · have:=hq.1.1
     unfold cS at this;rw [Bool.and_eq_true] at this
     have:=this.1
     unfold Sc.aG at this;rw [Bool.and_eq_true,decide_eq_true_eq,aK] at this;exact this.2
   · exact ih _ hq.2 d hd
 exact this L none h.2
def KO (w:World) (M n:Nat) (D:DataW Unit) (w1:World):Prop:=Below w.heap.size w w1∧w1.ownsMap Tryz.prog 9 (plainElem Tryz.prog 3) M n D
theorem KO.alloc {w:World} {M n:Nat} {D:DataW Unit} {w1:World} (h:KO w M n D w1) (o:Obj):KO w M n D (w1.alloc o):=⟨aA h.1 (aD _ _),h.2.alloc o⟩
def TR (w:World) (Ls:List (List Dp)) (L T:List Dp) (K:Nat) (j:Value) (wq:World):Prop:=∃ (m n:Nat) (D:DataW Unit) (done:List ByteArray),m≤L.length∧j= .int .i64 m∧n≤16*K+m∧KO w w.heap.size n D wq∧CntD D done∧done.Nodup∧fT Ls=done++(L.drop m++T).map Dp.nm
set_option maxHeartbeats 6400000 in
theorem vO {Ls:List (List Dp)} {g o cap:Nat} {w:World} (h:tG w g o Ls) (hs:∀ L ∈ Ls,iG L) (hln:Ls.length≤16):
 Calls Tryz.prog 198 #[.slice (some ⟨g,o,none⟩) Ls.length cap] w fun e w'=>e= .returned (.bool (eZ Ls))∧Below w.heap.size w w':=by
 have HP:Hid (∀ k (h:k<Ls.length),∃ u,∀ w1,Below w.heap.size w w1→w1.cell? ⟨g,o+k,none⟩=some u∧DepsAt w1 u Ls[k]):=fun k hk=>(h.2 k hk).imp fun u hu w1 hb=>⟨(hb.cell (p:=⟨g,o+k,none⟩) h.1).trans hu.1,hu.2.below hb⟩
 have HS:=aB hs;clear h hs;have hmm:= @run_makeMap Tryz.prog;have HM0:Hid (KO w w.heap.size 0 (.map []) (w.alloc (.map #[] 0))):=⟨aD _ _,World.ownsMap_made (H:=Unit) w Tryz.prog 9 (plainElem Tryz.prog 3)⟩
 go_enter Tryz.func198,Tryz.ntmps198
 go_wp2_with fail
 go_loopw [11] (fun i wr=>∃ (k n:Nat) (D:DataW Unit) (done:List ByteArray),k≤Ls.length∧i= .int .i64 k∧n≤16*k∧KO w w.heap.size n D wr∧CntD D done∧done.Nodup∧fT Ls=done++(Ls.drop k).flatten.map Dp.nm) (fun i _=>Ls.length - (intOf i).toNat)
 case atStart=>exact ⟨0,0,.map [],[],Nat.zero_le _,rfl,Nat.le_refl _,HM0.out,CntD.nil,List.nodup_nil,rfl⟩
 case round=>
  obtain ⟨k,n,D,done,hk,rfl,hn,hko,hcn,hnd,hnm⟩:=hrel
  by_cases hkl:k<Ls.length
  · obtain ⟨u,HU⟩:=HP.out k hkl
    obtain ⟨cu,hdu⟩:=HU wr hko.1;obtain ⟨AA,CC,rfl,hzc⟩:=hdu.len;have HU:=aB HU;clear hdu;have HSL:=aB (HS.out _ (List.getElem_mem hkl));have HKO0:=aB hko;have HCN0:=aB hcn;have HND0:=aB hnd
    have HNM0:Hid (fT Ls=done++(Ls[k]++(Ls.drop (k+1)).flatten).map Dp.nm):=by
     unfold Hid;rw [hnm,List.drop_eq_getElem_cons hkl,List.flatten_cons]
    have l1:=HSL.out.1;clear hko hcn hnd hnm;generalize Ls[k]=L at*;generalize hT:(Ls.drop (k+1)).flatten=T at*;have HT:=aB hT;clear hT
    go_wp2_with fail
    go_loopw [17] (fun j wq=>TR w Ls L T k j wq) (fun j _=>L.length - (intOf j).toNat)
    case atStart=>exact ⟨0,n,D,done,Nat.zero_le _,rfl,by omega,HKO0.out,HCN0.out,HND0.out,HNM0.out⟩
    case round=>
     clear HKO0 HCN0 HND0 HNM0 cu;obtain ⟨m,n,D,done,hm,rfl,hn,hko,hcn,hnd,hnm⟩:=hrel
     by_cases hlt:m<L.length
     · obtain ⟨ad,cap,e,_,hcs⟩:=(HU.out wr hko.1).2
       cases e
       obtain ⟨g,o,rfl,hg,hcs⟩:∃ g o,AA=some ⟨g,o,none⟩∧g<wr.heap.size∧∀ i (h:i<L.length),∃ u,DpIn wr g (o+i*2) L[i] u:=by
        rcases hcs with h|h
        · rw [h] at hlt;simp at hlt
        · exact h
       obtain ⟨u,p0,p1,⟨⟨hu,_⟩,_⟩,p3⟩:=hcs m hlt;obtain ⟨au,cu,rfl⟩:=hu.sl;have hnz:L[m].nm.size≤16:=HSL.out.2 _ (List.getElem_mem hlt)
       have HNM1:Hid (fT Ls=done++L[m].nm::(L.drop (m+1)++T).map Dp.nm):=by
        unfold Hid;rw [hnm,List.drop_eq_getElem_cons hlt];rfl
       clear hcs hu hnm;generalize L[m].rg.length=lu at*;generalize L[m].nm=s at*;have hkey:keyOf Tryz.prog 9 (.string s)=some (mU s):=RD (by unfold maxLen;omega);have HKA:Hid (KO w w.heap.size n D (wr.alloc (.cells #[.string s,.slice au lu cu] 170))):=hko.alloc _;obtain ⟨c,hrun,hat,_⟩:=HKA.out.2.lookup_int oJ Tryz.underlying271 Tryz.underlying3 (tF _) hkey;have hBX:Hid (BxD (wr.alloc (.cells #[.string s,.slice au lu cu] 170)) wr.heap.size s (.slice au lu cu)):=BxD.new rfl _ _;have hMw:w.heap.size<wr.heap.size:=hko.2.lt;have hBw:=hko.1.size
       by_cases hin:s ∈ done
       · rw [(hcn.2 s).1 hin] at hat
         obtain rfl:c=1:=by injection hat with h1;injection h1 with _ h2;exact h2.symm
         have HR:=aB (NU HNM1.out hin);have HMP:=aB hcn.1;clear hko hcn hnd HNM1
         go_wp2_with (at_mapUpdate;refine wpList_mapUpdate_own _ rfl _ _ _ 271 rfl 9 3 oJ Tryz.underlying271 _ w.heap.size n D rfl HKA.out.2 (by unfold maxLen;omega) _ _ _ rfl rfl hkey _ [] (plainElem_int (H:=Unit) Tryz.underlying3 (show (Lit.int .i64 2).wf=true by decide)) ?_;intro w5 hown5 hg5;obtain ⟨c5,hrun5,hat5,_⟩:=hown5.lookup_int oJ Tryz.underlying271 Tryz.underlying3 (tF _) hkey;rw [atKey_put_same HMP.out (zQ s)] at hat5;obtain rfl:c5=2:=(by injection hat5 with h1;injection h1 with _ h2;exact h2.symm);have b0:w5.cell? ⟨wr.heap.size,0,none⟩=some (.string s):=(hg5.cell_far ⟨wr.heap.size,0,none⟩ (by simp) (by simp;omega)).trans hBX.out.1;have HB5:Hid (Below w.heap.size w w5):=HKA.out.1.grown hg5 HKA.out.1.size (fun j hj=>by cases hj;omega);clear hat5)
         go_ret;exact ⟨aC HR.out.symm,HB5.out⟩
       · rw [(hcn.2 s).2 hin] at hat
         obtain rfl:c=0:=by injection hat with h1;injection h1 with _ h2;exact h2.symm
         have HCN2:Hid (CntD (D.put (mU s) (.lit (.int .i64 1))) (done++[s])):=hcn.put;have HND2:=aB (zR hnd hin);have HNM2:Hid (fT Ls=(done++[s])++(L.drop (m+1)++T).map Dp.nm):=by unfold Hid;rw [HNM1.out];simp
         have HMP:=aB hcn.1;clear hko hcn hnd HNM1
         go_wp2_with (at_mapUpdate;refine wpList_mapUpdate_own _ rfl _ _ _ 271 rfl 9 3 oJ Tryz.underlying271 _ w.heap.size n D rfl HKA.out.2 (by unfold maxLen;omega) _ _ _ rfl rfl hkey _ [] (plainElem_int (H:=Unit) Tryz.underlying3 (show (Lit.int .i64 1).wf=true by decide)) ?_;intro w5 hown5 hg5;obtain ⟨c5,hrun5,hat5,_⟩:=hown5.lookup_int oJ Tryz.underlying271 Tryz.underlying3 (tF _) hkey;rw [atKey_put_same HMP.out (zQ s)] at hat5;obtain rfl:c5=1:=(by injection hat5 with h1;injection h1 with _ h2;exact h2.symm);have b0:w5.cell? ⟨wr.heap.size,0,none⟩=some (.string s):=(hg5.cell_far ⟨wr.heap.size,0,none⟩ (by simp) (by simp;omega)).trans hBX.out.1;have HB5:Hid (KO w w.heap.size (n+1) (D.put (mU s) (.lit (.int .i64 1))) w5):=⟨HKA.out.1.grown hg5 HKA.out.1.size (fun j hj=>by cases hj;omega),hown5⟩;clear hat5)
         exact ⟨⟨m+1,n+1,_,_,by omega,by go_num,by omega,HB5.out,HCN2.out,HND2.out,HNM2.out⟩,by simp [intOf];omega⟩
     · have HNM2:Hid (fT Ls=done++T.map Dp.nm):=by unfold Hid;rw [hnm,List.drop_of_length_le (by omega)];rfl
       have HKO:=aB hko;have HCN:=aB hcn;have HND:=aB hnd;clear hko hcn hnd hnm
       go_wp2
       exact ⟨⟨k+1,n,D,done,by omega,by go_num,by omega,HKO.out,HCN.out,HND.out,by rw [HT.out];exact HNM2.out⟩,by simp [intOf];omega⟩
  · have HND:Hid (eZ Ls=true):=JL (by rw [hnm,List.drop_of_length_le (by omega)];simpa using hnd)
    have HKO:=aB hko;clear hko hcn hnd hnm
    go_wp2
    go_ret;exact ⟨aC HND.out.symm,HKO.out.1⟩
end Go.Proofs.YtlmpiohbmlddiaaGreatDoor
namespace Go.Proofs.YtlmpiohbmlddiaaGreatDoor.Sc
open Go.RowKit
set_option maxRecDepth 100000
theorem PX:(Tryz.prog.info? 118).map (·.size)=some 2:=by kernel_rfl
theorem ST:liesAt Tryz.prog Tryz.prog.depth 118 (2 / Tryz.prog.cellsOf 118) 0 118 1=true:=by kernel_rfl
theorem CV:(Tryz.prog.info? 5).map (fun i=>(i.zero,i.size,i.bytes))=some (some (.int .u8 0),1,1):=by kernel_rfl
set_option maxHeartbeats 1600000 in
theorem oK (b:Nat) (w:World) (h0:w.cell? ⟨b,0,none⟩=some (.pointer (some ⟨b,0,none⟩))):
 Calls Tryz.prog 106 #[.pointer (some ⟨b,0,none⟩)] w fun e w'=>e= .returned (.tuple #[])∧w'=w:=by
 obtain ⟨j,hj,_⟩:=Option.map_eq_some_iff.1 PX
 go_enter Tryz.func106,Tryz.ntmps106
 go_wp2
 rw [Lib.run_neq_ptr_same w _ Tryz.underlying115 hj]
 go_wp2
 go_end0
 exact ⟨rfl,rfl⟩
set_option maxHeartbeats 1600000 in
theorem mF (b:Nat) (w:World) (h0:w.cell? ⟨b,0,none⟩=some (.pointer none)) (hsh:w.shape? b=some (118,2)) (hfz:w.frozen? ⟨b,0,none⟩=false):
 Calls Tryz.prog 106 #[.pointer (some ⟨b,0,none⟩)] w fun e w'=>e= .returned (.tuple #[])∧w'=w.setCell ⟨b,0,none⟩ (.pointer (some ⟨b,0,none⟩)):=by
 obtain ⟨j,hj,hjs⟩:=Option.map_eq_some_iff.1 PX
 go_enter Tryz.func106,Tryz.ntmps106
 go_wp2
 rw [Lib.run_to_unsafe w ⟨b,0,none⟩ Tryz.underlying115 Tryz.underlying204 hj (by rw [hjs];decide) hsh (Nat.zero_lt_succ 1)];simp only [Result.andThen];rw [Oper.upon_value]
 go_wp2
 rw [run_callFunc_extern Tryz.func152 (by kernel_rfl) (by kernel_rfl) (by kernel_rfl) (e:=Extern.AbiNoEscape.same) (by kernel_rfl),Lib.run_noEscape];simp only [Result.andThen];rw [Oper.upon_value]
 go_wp2
 rw [Lib.run_from_unsafe w ⟨b,0,none⟩ Tryz.underlying204 Tryz.underlying115 hj hsh ST];simp only [Result.andThen];rw [Oper.upon_value]
 go_wp2
 go_end0
 exact ⟨rfl,rfl⟩
def Bld (B b:Nat) (l:Bs) (w:World):Prop:=Lib.IsBuilder 118 5 B b (Lib.byteCells l) w
theorem rO {B b:Nat} {l:Bs} {w:World} (h:Bld B b l w):
 Calls Tryz.prog 106 #[.pointer (some ⟨b,0,none⟩)] w fun e w'=>e= .returned (.tuple #[])∧Lib.BuilderAt 118 5 B b (.pointer (some ⟨b,0,none⟩)) (Lib.byteCells l) w'∧Below B w w':=by
 rcases h with h|h
 · refine (mF b w h.cell0 h.shape h.frozen0).mono ?_
   rintro e w' ⟨rfl,rfl⟩;exact ⟨rfl,h.used _,(Below.refl B w).setCell (p:=⟨b,0,none⟩) h.1 _⟩
 · refine (oK b w h.cell0).mono ?_
   rintro e w' ⟨rfl,rfl⟩;exact ⟨rfl,h,Below.refl B _⟩
set_option maxHeartbeats 1600000 in
theorem NW {B b:Nat} {l:Bs} {w:World} (c:UInt8) (h:Bld B b l w) (hl:l.length+1≤140737488355328) (hB:B≤w.heap.size):
 Calls Tryz.prog 173 #[.pointer (some ⟨b,0,none⟩),.int .u8 (c.toNat:Int)] w fun e w'=>e= .returned .nilIface∧Bld B b (l++[c]) w'∧Below B w w':=by
 obtain ⟨i0,hi,hz0,hz1,hz2⟩:=bO CV;have HC:=aB (rO h);have hlc:(Lib.byteCells l).length=l.length:=Lib.byteCells_length l
 go_enter Tryz.func173,Tryz.ntmps173
 go_wp2_with (go_at_call 106;refine HC.out.mono ?_)
 rintro e w1 ⟨rfl,h1,hb1⟩;obtain ⟨hBb,v,hbk,hown,hne⟩:=h1;have c0:w1.cell? ⟨b,0,none⟩=some (.pointer (some ⟨b,0,none⟩)):=by rw [Lib.cell_of_heap hbk];rfl
 have c1:w1.cell? ⟨b,1,none⟩=some v:=by rw [Lib.cell_of_heap hbk];rfl
 have hs1:=hb1.size
 go_wp2_with (at_builtin;refine wpList_append_own _ rfl _ _ 116 rfl B 5 i0 (.int .u8 0) 1 1 Tryz.underlying116 hi hz0 hz1 hz2 rfl (by decide) _ _ _ rfl (hown.alloc _) ⟨w1.heap.size,0,none⟩ 1 1 [.int .u8 (c.toNat:Int)] rfl rfl (cell_one_new _ _ _) (by intro u hu;rw [List.mem_singleton.1 hu];rfl) (by unfold maxLen;omega) (by omega) (by simp;omega) ?_)
 intro v' w2 hown' hgrow _;have hlt:b<w1.heap.size:=(Array.getElem?_eq_some_iff.1 hbk).1
 have hb2:w2.heap[b]? =some (.cells #[.pointer (some ⟨b,0,none⟩),v] 118 (0,0)):=by
  rw [hgrow.block b (by simp;omega) (fun e=>hne e.symm),Lib.alloc_old w1 _ b hlt];exact hbk
 have d0:w2.cell? ⟨b,0,none⟩=some (.pointer (some ⟨b,0,none⟩)):=by rw [Lib.cell_of_heap hb2];rfl
 have d1:w2.cell? ⟨b,1,none⟩=some v:=by rw [Lib.cell_of_heap hb2];rfl
 have f1:w2.frozen? ⟨b,1,none⟩=false:=Lib.frozen_of_heap hb2 1
 obtain ⟨ao,n',cap,rfl⟩:∃ ao n' cap,v'= .slice ao n' cap:=by
  rcases hown'.2 with ⟨hv,_⟩|⟨g,cap,cur,hv,_⟩
  · exact ⟨_,_,_,hv⟩
  · exact ⟨_,_,_,hv⟩
 go_wp2
 go_ret;refine ⟨rfl,Or.inr ?_,?_⟩
 · refine Lib.BuilderAt.put (T:=118) (e:=5) hBb hb2 ?_ (by decide)
   rw [Lib.byteCells_append,List.length_append,hlc];exact hown'
 · exact ((hb1.alloc (by omega) _).grown hgrow (by simp;omega) (fun k hk=>(hown.lt k hk).1)).setCell (p:=⟨b,1,none⟩) hBb _
set_option maxHeartbeats 1600000 in
theorem NX {B b:Nat} {l:Bs} {w:World} (s:ByteArray) (h:Bld B b l w) (hl:l.length+s.size≤140737488355328) (hB:B≤w.heap.size):
 Calls Tryz.prog 54 #[.pointer (some ⟨b,0,none⟩),.string s] w fun e w'=>e= .returned (.tuple #[.int .i64 s.size,.nilIface])∧Bld B b (l++s.data.toList) w'∧Below B w w':=by
 obtain ⟨i0,hi,hz0,hz1,hz2⟩:=bO CV;have HC:=aB (rO h);have hlc:(Lib.byteCells l).length=l.length:=Lib.byteCells_length l
 go_enter Tryz.func54,Tryz.ntmps54
 go_wp2_with (go_at_call 106;refine HC.out.mono ?_)
 rintro e w1 ⟨rfl,h1,hb1⟩;obtain ⟨hBb,v,hbk,hown,hne⟩:=h1;have c0:w1.cell? ⟨b,0,none⟩=some (.pointer (some ⟨b,0,none⟩)):=by rw [Lib.cell_of_heap hbk];rfl
 have c1:w1.cell? ⟨b,1,none⟩=some v:=by rw [Lib.cell_of_heap hbk];rfl
 have hs1:=hb1.size
 go_wp2_with (at_builtin;refine Lib.wpList_append_own_string _ rfl _ _ 116 9 rfl B 5 i0 Tryz.underlying116 Tryz.underlying9 hi hz0 hz1 hz2 _ _ _ rfl hown s rfl (by unfold maxLen;omega) (by omega) (by omega) ?_)
 intro v' w2 hown' hgrow _;have hlt:b<w1.heap.size:=(Array.getElem?_eq_some_iff.1 hbk).1
 have hb2:w2.heap[b]? =some (.cells #[.pointer (some ⟨b,0,none⟩),v] 118 (0,0)):=by
  rw [hgrow.block b hlt (fun e=>hne e.symm)];exact hbk
 have d0:w2.cell? ⟨b,0,none⟩=some (.pointer (some ⟨b,0,none⟩)):=by rw [Lib.cell_of_heap hb2];rfl
 have d1:w2.cell? ⟨b,1,none⟩=some v:=by rw [Lib.cell_of_heap hb2];rfl
 have f1:w2.frozen? ⟨b,1,none⟩=false:=Lib.frozen_of_heap hb2 1
 obtain ⟨ao,n',cap,rfl⟩:∃ ao n' cap,v'= .slice ao n' cap:=by
  rcases hown'.2 with ⟨hv,_⟩|⟨g,cap,cur,hv,_⟩
  · exact ⟨_,_,_,hv⟩
  · exact ⟨_,_,_,hv⟩
 go_wp2
 go_ret2;refine ⟨rfl,Or.inr ?_,?_⟩
 · refine Lib.BuilderAt.put (T:=118) (e:=5) hBb hb2 ?_ (by decide)
   rw [Lib.byteCells_append,List.length_append,←Lib.strCells_eq,hlc]
   simpa [Lib.strCells_length] using hown'
 · exact (hb1.grown hgrow (by omega) (fun k hk=>(hown.lt k hk).1)).setCell (p:=⟨b,1,none⟩) hBb _
end Go.Proofs.YtlmpiohbmlddiaaGreatDoor.Sc
namespace Go.Proofs.YtlmpiohbmlddiaaGreatDoor
open Go.RowKit
set_option maxRecDepth 100000
def RE (s:ByteArray):Option Rg:=if s.size≤4096 then TO s else none
theorem zS {A:Rg} (hl:A.length≤64):(iC A).size≤4096:=by
 cases A with
 |nil=>have:=dB 0 0 0;have z:(⟨#[60]⟩:ByteArray).size=1:=rfl;show (⟨#[60]⟩++aZ 0 0 0).size≤4096;rw [bW];omega
 |cons p A=>
  show (⟨(Lib.join ((p::A).map fun p=>(spT p).data.toList) [32,124,124,32]).toArray⟩:ByteArray).size≤4096;rw [nZ,List.map_cons,Lib.join_length,←List.map_cons (f:=fun p=>(spT p).data.toList)]
  have:=tA 27 ((p::A).map fun p=>(spT p).data.toList) (by
   intro x hx;obtain ⟨q,_,rfl⟩:=List.mem_map.1 hx;exact oA _ _ _ _ _ _)
  simp only [List.length_map,List.length_cons,List.length_nil] at*;omega
def FarB (b:Nat) (w w':World):Prop:=∀ N cs t fr,w.heap[N]? =some (.cells cs t fr)→t≠5→N≠b→w'.heap[N]? =some (.cells cs t fr)
theorem FarB.refl (b:Nat) (w:World):FarB b w w:=fun _ _ _ _ h _ _=>h
theorem FarB.trans {b:Nat} {w w1 w2:World} (h:FarB b w w1) (h2:FarB b w1 w2):FarB b w w2:=fun N cs t fr hh ht hn=>h2 N cs t fr (h N cs t fr hh ht hn) ht hn
theorem FarB.set {b:Nat} {w w1:World} (h:FarB b w w1) (i:Nat) (u:Value):FarB b w (w1.setCell ⟨b,i,none⟩ u):=fun N cs t fr hh ht hn=>(Below.heap_setCell _ _ _ _ hn).trans (h N cs t fr hh ht hn)
theorem FarB.below {b:Nat} {w w':World} (h:Below w.heap.size w w'):FarB b w w':=fun N _ _ _ hh _ _=>(h.block N (Array.getElem?_eq_some_iff.1 hh).1).trans hh
theorem rP {B b:Nat} {l:Sc.Bs} {w:World} (h:Sc.Bld B b l w):
 Calls Tryz.prog 106 #[.pointer (some ⟨b,0,none⟩)] w fun e w'=>e= .returned (.tuple #[])∧Lib.BuilderAt 118 5 B b (.pointer (some ⟨b,0,none⟩)) (Lib.byteCells l) w'∧Below B w w'∧FarB b w w':=by
 rcases h with h|h
 · refine (Sc.mF b w h.cell0 h.shape h.frozen0).mono ?_
   rintro e w' ⟨rfl,rfl⟩;exact ⟨rfl,h.used _,(Below.refl B w).setCell (p:=⟨b,0,none⟩) h.1 _,(FarB.refl b w).set _ _⟩
 · refine (Sc.oK b w h.cell0).mono ?_
   rintro e w' ⟨rfl,rfl⟩;exact ⟨rfl,h,Below.refl B _,FarB.refl b _⟩
set_option maxHeartbeats 1600000 in
theorem vP {B b:Nat} {l:Sc.Bs} {w:World} (s:ByteArray) (h:Sc.Bld B b l w) (hl:l.length+s.size≤140737488355328) (hB:B≤w.heap.size):
 Calls Tryz.prog 54 #[.pointer (some ⟨b,0,none⟩),.string s] w fun e w'=>e= .returned (.tuple #[.int .i64 s.size,.nilIface])∧Sc.Bld B b (l++s.data.toList) w'∧Below B w w'∧FarB b w w':=by
 obtain ⟨i0,hi,hz0,hz1,hz2⟩:=Sc.bO Sc.CV;have HC:=aB (rP h);have hlc:(Lib.byteCells l).length=l.length:=Lib.byteCells_length l
 go_enter Tryz.func54,Tryz.ntmps54
 go_wp2_with (go_at_call 106;refine HC.out.mono ?_)
 rintro e w1 ⟨rfl,h1,hb1,hf1⟩;obtain ⟨hBb,v,hbk,hown,hne⟩:=h1;have c0:w1.cell? ⟨b,0,none⟩=some (.pointer (some ⟨b,0,none⟩)):=by rw [Lib.cell_of_heap hbk];rfl
 have c1:w1.cell? ⟨b,1,none⟩=some v:=by rw [Lib.cell_of_heap hbk];rfl
 have hs1:=hb1.size
 go_wp2_with (at_builtin;refine Lib.wpList_append_own_string _ rfl _ _ 116 9 rfl B 5 i0 Tryz.underlying116 Tryz.underlying9 hi hz0 hz1 hz2 _ _ _ rfl hown s rfl (by unfold maxLen;omega) (by omega) (by omega) ?_)
 intro v' w2 hown' hgrow _;have hlt:b<w1.heap.size:=(Array.getElem?_eq_some_iff.1 hbk).1
 have hb2:w2.heap[b]? =some (.cells #[.pointer (some ⟨b,0,none⟩),v] 118 (0,0)):=by
  rw [hgrow.block b hlt (fun e=>hne e.symm)];exact hbk
 have HFA:Hid (FarB b w w2):=fun N cs t fr hh ht hn=>by
  have hN:=hf1 N cs t fr hh ht hn;refine (hgrow.block N (Array.getElem?_eq_some_iff.1 hN).1 (fun e=> ?_)).trans hN
  rcases hown.2 with ⟨hv,_⟩|⟨g,cap,cur,hv,_,hg,_⟩
  · rw [hv] at e;cases e
  · rw [hv] at e
    obtain rfl:N=g:=Option.some.inj e;rw [hN] at hg;injection hg with hg
    injection hg with _ hg _
    exact ht hg
 have d0:w2.cell? ⟨b,0,none⟩=some (.pointer (some ⟨b,0,none⟩)):=by rw [Lib.cell_of_heap hb2];rfl
 have d1:w2.cell? ⟨b,1,none⟩=some v:=by rw [Lib.cell_of_heap hb2];rfl
 have f1:w2.frozen? ⟨b,1,none⟩=false:=Lib.frozen_of_heap hb2 1
 obtain ⟨ao,n',cap,rfl⟩:∃ ao n' cap,v'= .slice ao n' cap:=by
  rcases hown'.2 with ⟨hv,_⟩|⟨g,cap,cur,hv,_⟩
  · exact ⟨_,_,_,hv⟩
  · exact ⟨_,_,_,hv⟩
 clear hf1
 go_wp2
 go_ret2;refine ⟨rfl,Or.inr ?_,?_,HFA.out.set _ _⟩
 · refine Lib.BuilderAt.put (T:=118) (e:=5) hBb hb2 ?_ (by decide)
   rw [Lib.byteCells_append,List.length_append,←Lib.strCells_eq,hlc]
   simpa [Lib.strCells_length] using hown'
 · exact (hb1.grown hgrow (by omega) (fun k hk=>(hown.lt k hk).1)).setCell (p:=⟨b,1,none⟩) hBb _
def fZ (x n r:ByteArray):Sc.Bs:=x.data.toList++([32]++(n.data.toList++([32]++(r.data.toList++[10]))))
theorem CW {B b:Nat} {l:Sc.Bs} {w:World} (h:Sc.Bld B b l w):Calls Tryz.prog 158 #[.pointer (some ⟨b,0,none⟩)] w fun e w'=>e= .returned (.int .i64 l.length)∧w'=w:=by
 obtain ⟨v,c1,hv⟩:∃ v,w.cell? ⟨b,1,none⟩=some v∧∃ ad cap,v= .slice ad l.length cap:=by
  rcases h with ⟨_,v,hbk,hown,_⟩|⟨_,v,hbk,hown,_⟩<;>
  · refine ⟨v,by rw [Lib.cell_of_heap hbk];rfl,?_⟩
    rcases hown.2 with ⟨hv,hn⟩|⟨g,cap,cur,hv,_⟩
    · rw [Lib.byteCells_length] at hn
      exact ⟨none,0,by rw [hv,hn]⟩
    · rw [Lib.byteCells_length] at hv
      exact ⟨_,_,hv⟩
 obtain ⟨ad,cap,rfl⟩:=hv
 go_enter Tryz.func158,Tryz.ntmps158
 go_wp2
 go_ret;exact ⟨rfl,rfl⟩
def plS (s:Sp):Int×Int:=(aW s.a s.b s.c,aW s.x s.y s.z)
theorem PY {A:Rg} (hA:RangeR A):(A.map spR).map plS=A:=by
 rw [List.map_map]
 conv=>rhs;rw [←List.map_id A]
 refine List.map_congr_left fun p hp=> ?_
 obtain ⟨h1,h2,_⟩:=hA.ok p hp;show (aW (atA p.1) (atB p.1) (atC p.1),aW (atA p.2) (atB p.2) (atC p.2))=p;have e1:=(nV (n:=p.1) (by unfold fW;obtain ⟨a,b⟩:=h1;simp;omega)).2;have e2:=(nV (n:=p.2) (by unfold fW;obtain ⟨a,b⟩:=h2;simp;omega)).2;rw [e1,e2]
def prS (L:List Sp):ByteArray:=iC (L.map plS)
theorem EZ {L:List Sp} {u:Value} {w:World} (h:cQ L=true) (hu:SpansC w u L) (he:Env w) (hf:FL w):
 Calls Tryz.prog 199 #[u] w fun e w'=>e= .returned (.string (prS L))∧Below w.heap.size w w':=by
 unfold cQ at h;rw [Bool.and_eq_true] at h;obtain ⟨A,rfl,hA,hl⟩:=sX.1 h.2;unfold prS;rw [PY hA];exact EO hA hl hu.rg he hf
theorem vQ {L:List Sp} (h:cQ L=true):(prS L).size≤4096:=by
 unfold cQ at h;rw [Bool.and_eq_true] at h;obtain ⟨A,rfl,hA,hl⟩:=sX.1 h.2;unfold prS;rw [PY hA];exact zS hl
def bM (x:ByteArray) (L:List Dp):Sc.Bs:=L.flatMap fun d=>fZ x d.nm (prS d.rg)
theorem zV {x:ByteArray} {L:List Dp} {k:Nat} (h:k<L.length):bM x (L.take (k+1))=bM x (L.take k)++fZ x L[k].nm (prS L[k].rg):=by
 unfold bM;rw [List.take_succ_eq_append_getElem h,List.flatMap_append]
 simp
theorem oL:∀ {L:List Dp} {q:Option ByteArray},fR q L=true→∀ d ∈ L,d.nm.size≤16∧cQ d.rg=true
 |[],_,_,d,hd=>by cases hd
 |e::M,q,hq,d,hd=>by
  rw [fR,Bool.and_eq_true,Bool.and_eq_true] at hq
  rcases List.mem_cons.1 hd with rfl|hd
  · have:=hq.1.1
    unfold cS at this;rw [Bool.and_eq_true] at this
    have:=this.1
    unfold Sc.aG at this;rw [Bool.and_eq_true,decide_eq_true_eq,aK] at this;exact ⟨this.2,hq.1.2⟩
  · exact oL hq.2 d hd
theorem vR {x n r:ByteArray} (hx:x.size≤16) (hn:n.size≤16) (hr:r.size≤4096):(fZ x n r).length≤5000:=by
 unfold fZ;simp only [List.length_append,aK,List.length_cons,List.length_nil];omega
theorem fA {x:ByteArray} (hx:x.size≤16) {L:List Dp} (h:bN L=true) (k:Nat):(bM x (L.take k)).length≤80000:=by
 unfold bN at h;rw [Bool.and_eq_true,decide_eq_true_eq] at h
 have:∀ M:List Dp,(∀ d ∈ M,d.nm.size≤16∧cQ d.rg=true)→(bM x M).length≤5000*M.length:=by
  intro M
  induction M with
  |nil=>intro _;simp [bM]
  |cons d M ih=>
   intro hM;have h1:=ih fun e he=>hM e (List.mem_cons_of_mem _ he)
   have h2:=vR (x:=x) hx (hM d List.mem_cons_self).1 (vQ (hM d List.mem_cons_self).2)
   have:bM x (d::M)=fZ x d.nm (prS d.rg)++bM x M:=by unfold bM;simp
   rw [this,List.length_append,List.length_cons];omega
 have h2:=this (L.take k) fun d hd=>oL h.2 d (List.mem_of_mem_take hd)
 have h3:(L.take k).length≤16:=by rw [List.length_take];omega
 omega
def TW (w1:World) (l:Sc.Bs) (w':World):Prop:=Sc.Bld w1.heap.size w1.heap.size l w'∧Below w1.heap.size w1 w'
theorem FA {B b:Nat} {l:Sc.Bs} {w w':World} (h:Sc.Bld B b l w) (hb:Below w.heap.size w w'):Sc.Bld B b l w':=by
 have step:∀ p,Lib.BuilderAt 118 5 B b p (Lib.byteCells l) w→Lib.BuilderAt 118 5 B b p (Lib.byteCells l) w':=by
  rintro p ⟨hB,v,hbk,hown,hne⟩;refine ⟨hB,v,(hb.block b (Array.getElem?_eq_some_iff.1 hbk).1).trans hbk,⟨hown.1,hown.2.imp id ?_⟩,hne⟩;rintro ⟨g,cap,cur,rfl,h1,hg,h2⟩;exact ⟨g,cap,cur,rfl,h1,(hb.block g (Array.getElem?_eq_some_iff.1 hg).1).trans hg,h2⟩
 exact h.imp (step _) (step _)
theorem fB (w1:World) (l:Sc.Bs):KeepP (TW w1 l):=fun _ _ h hb=>⟨FA h.1 hb,aA h.2 hb⟩
theorem TW.new (w1:World):TW w1 [] (w1.alloc (.cells #[.pointer none,.slice none 0 0] 118)):=⟨Lib.fresh_isBuilder _ _ w1,aD _ _⟩
theorem TW.far {w1:World} {l:Sc.Bs} {w':World} (h:TW w1 l w'):w1.heap.size<w'.heap.size:=by
 rcases h.1 with h|h<;>exact h.lt
theorem TW.put {w1 wz:World} {l:Sc.Bs} (h:TW w1 l wz) (s:ByteArray) (hl:l.length≤1000000000) (hs:s.size≤1000000):
 Calls Tryz.prog 54 #[.pointer (some ⟨w1.heap.size,0,none⟩),.string s] wz fun e w'=>e= .returned (.tuple #[.int .i64 s.size,.nilIface])∧TW w1 (l++s.data.toList) w'∧FarB w1.heap.size wz w':=by
 refine (vP s h.1 (by omega) h.2.size).mono ?_;rintro e w' ⟨rfl,g1,g2,g3⟩;exact ⟨rfl,⟨g1,h.2.trans g2⟩,g3⟩
end Go.Proofs.YtlmpiohbmlddiaaGreatDoor
