/- ScNm2, Pk3, Pk4, ScBd1, Wr1, Pk6, Pk7, Pk8, Ct8, Ct10: their declarations that are needed, laid in one text, remarks and blanks left out. -/
import Derived.Maps.Own
import Derived.Maps.Views
import Derived.Shelf.Strings.Builder1
import Derived.Test.YtpfemjlhklnfoaaGreatDoorScC
import Derived.Test.YtpfemjlhklnfoaaGreatDoorShelfE
import Derived.Test.YtpfemjlhklnfoaaGreatDoorShelfF
import Derived.WideKeyEntry
import Derived.Laws.RangeAny
import Derived.Lib.OthersKept
import Derived.Lib.IndexMore
import Derived.Lib.CountLaws
import Derived.Test.YtpfemjlhklnfoaaGreatDoorMg05
namespace Go.Proofs.YtpfemjlhklnfoaaGreatDoor.Sc
open Go.RowKit
set_option maxRecDepth 100000
def uY:Bs→Bool
 |[]=>false
 |b::_=>ltB b
def bK (t:Bs):Bool:=uY t&&t.all nmB&&decide (t.length≤16)
theorem mH {p:ByteArray}:p.toList.isEmpty=p.data.toList.isEmpty:=by rw [ByteArray.toList_eq]
theorem mI {t:Bs} (h:t.isEmpty=true):bK t=false:=by cases t<;>simp_all [bK,uY]
theorem xH {s:ByteArray} (h:0<s.size):uY s.data.toList=ltB s[0]:=by
 have:s.data.toList=s[0]::s.data.toList.drop 1:=by
  have:=List.drop_eq_getElem_cons (l:=s.data.toList) (i:=0) (by rw [aV];exact h)
  rw [List.drop_zero] at this;exact this
 rw [this];rfl
theorem uZ {s:ByteArray} (h:s.toList.isEmpty=false):0<s.size:=by
 rw [mH] at h;rw [←aV];cases hs:s.data.toList with
 |nil=>rw [hs] at h;cases h
 |cons _ _=>simp
theorem xI {s:ByteArray} {k:Nat} (hk:k<s.size) {f:UInt8→Bool} (h:f s[k]=false):s.data.toList.all f=false:=by
 rw [Bool.eq_false_iff];intro ha;rw [List.all_eq_true] at ha
 have:=ha s[k] (List.getElem_mem (l:=s.data.toList) (n:=k) (by rw [aV];exact hk))
 rw [h] at this;cases this
theorem iN {s:ByteArray} {k:Nat} (hk:k<s.size) {f:UInt8→Bool} (h:(s.data.toList.take k).all f=true) (hb:f s[k]=true):(s.data.toList.take (k+1)).all f=true:=by
 rw [List.take_succ_eq_append_getElem (by rw [aV];exact hk),List.all_append,h];simp only [List.all_cons,List.all_nil,Bool.and_true,Bool.true_and];exact hb
theorem xJ {s:ByteArray} {f:UInt8→Bool} (h:(s.data.toList.take s.size).all f=true):s.data.toList.all f=true:=by
 rw [List.take_of_length_le (by rw [aV];exact Nat.le_refl _)] at h;exact h
set_option maxHeartbeats 3200000 in
theorem iO (s:ByteArray) (w:World):Calls Tryz.prog 162 #[.string s] w fun e w'=>e= .returned (.bool (bK s.data.toList))∧w'=w:=by
 cases he:s.toList.isEmpty
 · have h0:=uZ he
   by_cases h16:s.size≤16
   · have HH:=aA (xH h0)
     have HL:=aA (iM s[0]);cases hl:ltB s[0]
     · have HR:Hid (bK s.data.toList=false):=by unfold Hid bK;rw [HH.out,hl];rfl
       rw [hl] at HL;clear hl
       go_enter Tryz.func162,Tryz.ntmps162
       go_wp2_with (go_at_call 211;refine (HL.out _).mono ?_;rintro e w1 ⟨rfl,hw1⟩;subst hw1)
       go_ret;exact ⟨aC HR.out.symm,rfl⟩
     · rw [hl] at HL HH
       clear hl;have HLT:Hid (∀ b:UInt8,∀ w1,Calls Tryz.prog 211 #[.int .u8 (b.toNat:Int)] w1 fun e w'=>e= .returned (.bool (ltB b))∧w'=w1):=iM;have HDG:Hid (∀ b:UInt8,∀ w1,Calls Tryz.prog 212 #[.int .u8 (b.toNat:Int)] w1 fun e w'=>e= .returned (.bool (dgB b))∧w'=w1):=sB
       go_enter Tryz.func162,Tryz.ntmps162
       go_wp2_with (go_at_call 211;refine (HL.out _).mono ?_;rintro e w1 ⟨rfl,hw1⟩;subst hw1;clear HL)
       go_loop [19] (fun i=>∃ k:Nat,k≤s.size∧i= .int .i64 k∧(s.data.toList.take k).all nmB=true) (fun i=>s.size - (intOf i).toNat)
       case atStart=>exact ⟨0,Nat.zero_le _,rfl,rfl⟩
       case round=>
        obtain ⟨k,hk,rfl,hal⟩:=hrel;have HA:=aA hal;clear hal
        by_cases hlt:k<s.size
        · have HLk:=aA (HLT.out s[k])
          have HDk:=aA (HDG.out s[k]);cases h1:ltB s[k]
          · cases h2:dgB s[k]
            · by_cases h3:s[k].toNat=45
              · have hn:nmB s[k]=true:=by unfold nmB;rw [h1,h2,decide_eq_true h3];rfl
                have HA2:=aA (iN hlt HA.out hn);have e3:((s[k].toNat:Int)==45)=true:=by rw [beq_iff_eq];omega
                rw [h1] at HLk;rw [h2] at HDk;clear h1 h2 h3 hn
                go_wp2_with (first|(go_at_call 211;refine (HLk.out _).mono ?_;rintro e w1 ⟨rfl,hw1⟩;subst hw1)|(go_at_call 212;refine (HDk.out _).mono ?_;rintro e w1 ⟨rfl,hw1⟩;subst hw1))
                exact ⟨⟨k+1,by omega,by go_num,HA2.out⟩,by simp [intOf];omega⟩
              · have hn:nmB s[k]=false:=by unfold nmB;rw [h1,h2,decide_eq_false h3];rfl
                have HR:Hid (bK s.data.toList=false):=by unfold Hid bK;rw [xI hlt hn];simp
                have e3:((s[k].toNat:Int)==45)=false:=by rw [beq_eq_false_iff_ne];omega
                rw [h1] at HLk;rw [h2] at HDk;clear h1 h2 h3 hn
                go_wp2_with (first|(go_at_call 211;refine (HLk.out _).mono ?_;rintro e w1 ⟨rfl,hw1⟩;subst hw1)|(go_at_call 212;refine (HDk.out _).mono ?_;rintro e w1 ⟨rfl,hw1⟩;subst hw1))
                go_ret;exact ⟨aC HR.out.symm,rfl⟩
            · have hn:nmB s[k]=true:=by unfold nmB;rw [h1,h2];rfl
              have HA2:=aA (iN hlt HA.out hn);rw [h1] at HLk;rw [h2] at HDk;clear h1 h2 hn
              go_wp2_with (first|(go_at_call 211;refine (HLk.out _).mono ?_;rintro e w1 ⟨rfl,hw1⟩;subst hw1)|(go_at_call 212;refine (HDk.out _).mono ?_;rintro e w1 ⟨rfl,hw1⟩;subst hw1))
              exact ⟨⟨k+1,by omega,by go_num,HA2.out⟩,by simp [intOf];omega⟩
          · have hn:nmB s[k]=true:=by unfold nmB;rw [h1];rfl
            have HA2:=aA (iN hlt HA.out hn);rw [h1] at HLk;clear h1 hn
            go_wp2_with (go_at_call 211;refine (HLk.out _).mono ?_;rintro e w1 ⟨rfl,hw1⟩;subst hw1)
            exact ⟨⟨k+1,by omega,by go_num,HA2.out⟩,by simp [intOf];omega⟩
        · have hke:k=s.size:=by omega
          subst hke;have HR:Hid (bK s.data.toList=true):=by unfold Hid bK;rw [HH.out,xJ HA.out,aV,decide_eq_true h16];rfl
          go_wp2
          go_ret;exact ⟨aC HR.out.symm,rfl⟩
   · have HR:Hid (bK s.data.toList=false):=by unfold Hid bK;rw [aV,decide_eq_false h16];simp
     go_enter Tryz.func162,Tryz.ntmps162
     go_wp2
     go_ret;exact ⟨aC HR.out.symm,rfl⟩
 · have HR:Hid (bK s.data.toList=false):=mI (by rw [←mH];exact he)
   go_enter Tryz.func162,Tryz.ntmps162
   go_wp2
   go_ret;exact ⟨aC HR.out.symm,rfl⟩
end Go.Proofs.YtpfemjlhklnfoaaGreatDoor.Sc
namespace Go.Proofs.YtpfemjlhklnfoaaGreatDoor
open Go.RowKit
set_option maxRecDepth 100000
def ltS (s t:ByteArray):Bool:=Op.bytesLess s.toList t.toList
def bR (q:Option ByteArray) (s:ByteArray):Bool:=Sc.bK s.data.toList&&(match q with
 |none=>true
 |some p=>ltS p s)
def bO (L:List Sp):Bool:=decide (0<L.length)&&dK L
def cW:Option ByteArray→List Dp→Bool
 |_,[]=>true
 |q,d::r=>bR q d.nm&&bO d.rg&&cW (some d.nm) r
def bH (L:List Dp):Bool:=decide (L.length≤16)&&cW none L
def dH (L:List Dp):Option ByteArray:=L.getLast?.map (·.nm)
theorem DepsAt.len {w:World} {v:Value} {L:List Dp} (h:DepsAt w v L):∃ ad cap,v= .slice ad L.length cap∧L.length≤cap:=by
 obtain ⟨ad,cap,rfl,h,_⟩:=h;exact ⟨ad,cap,rfl,h⟩
theorem kS {v:Value} {L:List Sp} {w:World} (h:SpansAt w v L):
 Calls Tryz.prog 232 #[v] w fun e w'=>e= .returned (.bool (bO L))∧Below w.heap.size w w':=by
 have HM:=aA (lR h);obtain ⟨ad,cap,rfl⟩:=h.sl;clear h
 by_cases h0:0<L.length
 · have HR:Hid (bO L=dK L):=by unfold Hid bO;simp [h0]
   go_enter Tryz.func232,Tryz.ntmps232
   go_wp2_with (go_at_call 96;refine HM.out.mono ?_;rintro e w1 ⟨rfl,ok⟩)
   go_ret;exact ⟨aC HR.out.symm,ok⟩
 · have HR:Hid (bO L=false):=by unfold Hid bO;simp [h0]
   go_enter Tryz.func232,Tryz.ntmps232
   go_wp2
   go_ret;exact ⟨aC HR.out.symm,Below.refl _ _⟩
theorem jO {va:Value} {A:List Dp} {w:World} (h:DepsAt w va A) (hl:A.length≤1000000000000) (s:ByteArray):
 Calls Tryz.prog 231 #[va,.string s] w fun e w'=>e= .returned (.bool (bR (dH A) s))∧w'=w:=by
 have HN:Hid (Calls Tryz.prog 162 #[.string s] w fun e w'=>e= .returned (.bool (Sc.bK s.data.toList))∧w'=w):=Sc.iO s w;cases hn:Sc.bK s.data.toList
 · have HR:Hid (bR (dH A) s=false):=by unfold Hid bR;rw [hn];rfl
   rw [hn] at HN;obtain ⟨ad,cap,rfl⟩:=h.sl;clear h
   go_enter Tryz.func231,Tryz.ntmps231
   go_wp2_with (go_at_call 162;refine HN.out.mono ?_;rintro e w1 ⟨rfl,rfl⟩)
   go_ret;exact ⟨aC HR.out.symm,rfl⟩
 · rw [hn] at HN
   rcases List.eq_nil_or_concat A with rfl|⟨B,d,rfl⟩
   · have HR:Hid (bR (dH []) s=true):=by unfold Hid bR;rw [hn];rfl
     obtain ⟨ad,cap,rfl⟩:=h.sl;clear h
     go_enter Tryz.func231,Tryz.ntmps231
     go_wp2_with (go_at_call 162;refine HN.out.mono ?_;rintro e w1 ⟨rfl,rfl⟩)
     go_ret;exact ⟨aC HR.out.symm,rfl⟩
   · have HR:Hid (bR (dH (B++[d])) s=Op.bytesLess d.nm.toList s.toList):=by unfold Hid bR dH;rw [hn];simp [ltS]
     rw [List.concat_eq_append] at*;obtain ⟨ad,cap,rfl,hc,hs⟩:=h
     rcases hs with hs|⟨g,o,rfl,hg,hs⟩
     · simp at hs
     · obtain ⟨u,c0,hrest⟩:=hs B.length (by simp)
       clear hrest hs;simp only [List.getElem_concat_length] at c0;have hlen:(B++[d]).length=B.length+1:=by simp
       rw [hlen] at hl hc ⊢;generalize B.length=m at*;have w1:IntKind.i64.wrap (((m+1:Nat):Int) - 1)=(m:Int):=by rw [IntKind.wrap_i64];omega
       go_enter Tryz.func231,Tryz.ntmps231
       go_wp2_with (go_at_call 162;refine HN.out.mono ?_;rintro e w1 ⟨rfl,rfl⟩)
       go_ret;exact ⟨aC HR.out.symm,rfl⟩
theorem DepsAt.take {w:World} {ad:Option Addr} {cap:Nat} {L:List Dp} (h:DepsAt w (.slice ad L.length cap) L) {k:Nat} (hk:k≤L.length):DepsAt w (.slice ad k cap) (L.take k):=by
 obtain ⟨ad',cap',e,hc,hs⟩:=h;cases e;refine ⟨ad,cap,by simp [Nat.min_eq_left hk],by simp;omega,?_⟩
 rcases hs with rfl|⟨g,o,rfl,hg,hs⟩
 · exact Or.inl (by simp)
 · refine Or.inr ⟨g,o,rfl,hg,fun i hi=> ?_⟩
   have hi':i<L.length:=by simp at hi;omega
   obtain ⟨u,hu⟩:=hs i hi';exact ⟨u,by simpa using hu⟩
theorem oO {L:List Dp} {k:Nat} (h:k<L.length):dH (L.take (k+1))=some L[k].nm:=by
 unfold dH;rw [List.take_succ_eq_append_getElem h,List.getLast?_concat];rfl
def KM (w:World) (N:Nat) (s:ByteArray) (u:Value) (d:Dp) (va:Value) (A:List Dp) (w1:World):Prop:=Below w.heap.size w w1∧BxD w1 N s u∧SpansAt w1 u d.rg∧DepsAt w1 va A
theorem zI (w:World) (N:Nat) (s:ByteArray) (u:Value) (d:Dp) (va:Value) (A:List Dp):KeepP (KM w N s u d va A):=(aL w).and ((xC _ _ _).and ((rK _ _).and (uT _ _)))
set_option maxHeartbeats 3200000 in
theorem kT (L:List Dp) (hlen:L.length≤16) (g o cap:Nat) (w:World) (h:DepsAt w (.slice (some ⟨g,o,none⟩) L.length cap) L) (hs:∀ i (h:i<L.length),∃ u,DpIn w g (o+i*2) L[i] u):
 Calls Tryz.prog 197 #[.slice (some ⟨g,o,none⟩) L.length cap] w fun e w'=>e= .returned (.bool (bH L))∧Below w.heap.size w w':=by
 have HL:Hid (∀ w1,Below w.heap.size w w1→∀ i (h:i<L.length),∃ u,DpIn w1 g (o+i*2) L[i] u):=fun w1 hb i hi=>(hs i hi).imp fun u h=>h.below hb
 have HD:Hid (∀ w1,Below w.heap.size w w1→∀ k,k≤L.length→DepsAt w1 (.slice (some ⟨g,o,none⟩) k cap) (L.take k)):=fun w1 hb k hk=>(h.below hb).take hk
 have HT:Hid (bH L=cW none L):=by unfold Hid bH;simp [hlen]
 have hcap:L.length≤cap:=by obtain ⟨_,_,e,hc,_⟩:=h;cases e;exact hc
 have h16:decide ((16:Int)<(L.length:Int))=false:=decide_eq_false (by omega);clear h hs
 go_enter Tryz.func197,Tryz.ntmps197
 go_wp2_with fail
 go_loopw [10] (fun i wr=>∃ k:Nat,k≤L.length∧i= .int .i64 k∧Below w.heap.size w wr∧cW none L=cW (dH (L.take k)) (L.drop k)) (fun i _=>L.length - (intOf i).toNat)
 case atStart=>exact ⟨0,Nat.zero_le _,rfl,Below.refl _ _,rfl⟩
 case round=>
  obtain ⟨k,hk,rfl,hb,hall⟩:=hrel;have HALL:=aA hall;have HB:=aA hb;clear hall
  by_cases hlt:k<L.length
  · obtain ⟨u,c0,c1,⟨⟨hu,_⟩,_⟩,cg⟩:=HL.out wr hb k hlt
    have hd:=HD.out wr hb k hk;have hkc:(k:Int)≤(cap:Int):=by omega
    have hc0:¬ (cap=0):=by omega
    obtain ⟨ad,uc,rfl⟩:=hu.sl;have hdr:L.drop k=L[k]::L.drop (k+1):=List.drop_eq_getElem_cons hlt
    have HST:Hid (cW none L=(bR (dH (L.take k)) L[k].nm&&bO L[k].rg&&cW (dH (L.take (k+1))) (L.drop (k+1)))):=by
     unfold Hid;rw [HALL.out,hdr,oO hlt];rfl
    have HO:Hid (KM w wr.heap.size L[k].nm (.slice ad L[k].rg.length uc) L[k] (.slice (some ⟨g,o,none⟩) k cap) (L.take k) (wr.alloc (.cells #[.string L[k].nm,.slice ad L[k].rg.length uc] 89))):=⟨aB hb (aD _ _),BxD.new rfl _ _,hu.below (aD _ _),hd.below (aD _ _)⟩;have HK:Hid (KeepP (KM w wr.heap.size L[k].nm (.slice ad L[k].rg.length uc) L[k] (.slice (some ⟨g,o,none⟩) k cap) (L.take k))):=zI _ _ _ _ _ _ _;have HF:Hid (∀ w1,KM w wr.heap.size L[k].nm (.slice ad L[k].rg.length uc) L[k] (.slice (some ⟨g,o,none⟩) k cap) (L.take k) w1→Calls Tryz.prog 231 #[.slice (some ⟨g,o,none⟩) k cap,.string L[k].nm] w1 fun e w'=>e= .returned (.bool (bR (dH (L.take k)) L[k].nm))∧Below w1.heap.size w1 w'):=fun w1 hk1=>(jO hk1.2.2.2 (by simp;omega) _).mono fun e w' ⟨h1,h2⟩=>⟨h1,by rw [h2];exact Below.refl _ _⟩
    have HG:Hid (∀ w1,KM w wr.heap.size L[k].nm (.slice ad L[k].rg.length uc) L[k] (.slice (some ⟨g,o,none⟩) k cap) (L.take k) w1→Calls Tryz.prog 232 #[.slice ad L[k].rg.length uc] w1 fun e w'=>e= .returned (.bool (bO L[k].rg))∧Below w1.heap.size w1 w'):=fun w1 hk1=>kS hk1.2.2.1
    clear hu hd hdr HALL hb;generalize bR (dH (L.take k)) L[k].nm=bf at*;generalize bO L[k].rg=bg at*;generalize L[k].rg.length=n at*;generalize L[k].nm=s at*;generalize L[k]=d at*;cases bf
    · have HR:Hid (bH L=false):=by unfold Hid;rw [HT.out,HST.out];rfl
      clear HST HG
      go_wp2_with fail
      refine aX HK (by kernel_rfl) (by kernel_rfl) (by first|exact HO.out|exact HK.out.drew HO.out) ?_;intro C HIN HOUT;clear HO
      repeat
       (with_reducible refine wpQuiet_step (fun K hK=> ?_)
        go_simp
        first
         |(refine hK _ ?_;clear hK K)
         |(apply Exists.intro;refine ⟨fun w1 hC=> ?_,hK _ ?_⟩;(focus ((first|(go_at_call 231;with_reducible exact cT HIN HOUT HK HF.out w1 hC)|(exact rfl)|(obtain ⟨hb1,⟨k0,k1,k2⟩,hs1,hd1⟩:=HOUT.out w1 hC;clear hC;go_simp;first|done|exact rfl));done));clear hK K))
      refine wpQuiet_nil ?_;intro wn hC;have HO:=aA (HOUT.out _ hC);clear hC HIN HOUT C;obtain ⟨hb1,⟨k0,k1,k2⟩,hs1,hd1⟩:=HO.out
      go_wp2
      go_ret;exact ⟨aC HR.out.symm,HO.out.1⟩
    · cases bg
      · have HR:Hid (bH L=false):=by unfold Hid;rw [HT.out,HST.out];rfl
        clear HST
        go_wp2_with fail
        refine aX HK (by kernel_rfl) (by kernel_rfl) (by first|exact HO.out|exact HK.out.drew HO.out) ?_;intro C HIN HOUT;clear HO
        repeat
         (with_reducible refine wpQuiet_step (fun K hK=> ?_)
          go_simp
          first
           |(refine hK _ ?_;clear hK K)
           |(apply Exists.intro;refine ⟨fun w1 hC=> ?_,hK _ ?_⟩;(focus ((first|(go_at_call 231;with_reducible exact cT HIN HOUT HK HF.out w1 hC)|(go_at_call 232;with_reducible exact cT HIN HOUT HK HG.out w1 hC)|(exact rfl)|(obtain ⟨hb1,⟨k0,k1,k2⟩,hs1,hd1⟩:=HOUT.out w1 hC;clear hC;go_simp;first|done|exact rfl));done));clear hK K))
        refine wpQuiet_nil ?_;intro wn hC;have HO:=aA (HOUT.out _ hC);clear hC HIN HOUT C;obtain ⟨hb1,⟨k0,k1,k2⟩,hs1,hd1⟩:=HO.out
        go_wp2
        go_ret;exact ⟨aC HR.out.symm,HO.out.1⟩
      · have HR:Hid (cW none L=cW (dH (L.take (k+1))) (L.drop (k+1))):=by unfold Hid;rw [HST.out];rfl
        clear HST
        go_wp2_with fail
        refine aX HK (by kernel_rfl) (by kernel_rfl) (by first|exact HO.out|exact HK.out.drew HO.out) ?_;intro C HIN HOUT;clear HO
        repeat
         (with_reducible refine wpQuiet_step (fun K hK=> ?_)
          go_simp
          first
           |(refine hK _ ?_;clear hK K)
           |(apply Exists.intro;refine ⟨fun w1 hC=> ?_,hK _ ?_⟩;(focus ((first|(go_at_call 231;with_reducible exact cT HIN HOUT HK HF.out w1 hC)|(go_at_call 232;with_reducible exact cT HIN HOUT HK HG.out w1 hC)|(exact rfl)|(obtain ⟨hb1,⟨k0,k1,k2⟩,hs1,hd1⟩:=HOUT.out w1 hC;clear hC;go_simp;first|done|exact rfl));done));clear hK K))
        refine wpQuiet_nil ?_;intro wn hC;have HO:=aA (HOUT.out _ hC);clear hC HIN HOUT C;obtain ⟨hb1,⟨k0,k1,k2⟩,hs1,hd1⟩:=HO.out
        go_wp2
        exact ⟨⟨k+1,by omega,by go_num,HO.out.1,HR.out⟩,by simp [intOf];omega⟩
  · have hke:k=L.length:=by omega
    subst hke;have HR:Hid (bH L=true):=by unfold Hid;rw [HT.out,HALL.out];simp [cW]
    clear hb
    go_wp2
    go_ret;exact ⟨aC HR.out.symm,HB.out⟩
theorem kU (ad:Option Addr) (n cap:Nat) (h:16<n) (w:World):
 Calls Tryz.prog 197 #[.slice ad n cap] w fun e w'=>e= .returned (.bool false)∧Below w.heap.size w w':=by
 have hn:(16:Int)<(n:Int):=by omega
 go_enter Tryz.func197,Tryz.ntmps197
 go_wp2
 go_ret;exact ⟨rfl,Below.refl _ _⟩
theorem mJ (ad:Option Addr) (cap:Nat) (w:World):
 Calls Tryz.prog 197 #[.slice ad 0 cap] w fun e w'=>e= .returned (.bool true)∧Below w.heap.size w w':=by
 go_enter Tryz.func197,Tryz.ntmps197
 go_wp2_with fail
 go_loop [10] (fun i=>i= .int .i64 0) (fun _=>0)
 case atStart=>rfl
 case round=>
  subst hrel
  go_wp2
  go_ret;exact ⟨rfl,Below.refl _ _⟩
theorem cX {v:Value} {L:List Dp} {w:World} (h:DepsAt w v L):
 Calls Tryz.prog 197 #[v] w fun e w'=>e= .returned (.bool (bH L))∧Below w.heap.size w w':=by
 have h':=h;obtain ⟨ad,cap,rfl,hc,hs⟩:=h'
 by_cases h16:L.length≤16
 · rcases hs with rfl|⟨g,o,rfl,hg,hs⟩
   · exact mJ _ _ w
   · exact kT L h16 g o cap w h hs
 · have:bH L=false:=by unfold bH;simp [h16]
   rw [this];exact kU _ _ _ (by omega) w
end Go.Proofs.YtpfemjlhklnfoaaGreatDoor
namespace Go.Proofs.YtpfemjlhklnfoaaGreatDoor
open Go.RowKit Go.Maps Go.WideMaps Go.WideElems
set_option maxRecDepth 100000
def fM (s:ByteArray):Lit:= .string s.data.toList
theorem iP {s t:ByteArray} (h:fM s=fM t):s=t:=by
 unfold fM at h;injection h with h
 exact bM (by rw [ByteArray.toList_eq,ByteArray.toList_eq,h])
theorem iQ (s:ByteArray):WideAt.IsKeyLit (fM s):=by unfold fM WideAt.IsKeyLit;trivial
theorem eZ:Keyed Tryz.prog 9:=string_keyed Tryz.underlying9
theorem oP {s:ByteArray} (hs:s.size≤maxLen):keyOf Tryz.prog 9 (.string s)=some (fM s):=keyOf_string_mk Tryz.underlying9 hs
theorem fN (w:World):(zeroValue 3).run Tryz.prog w= .ok (.int .i64 0) w:=by kernel_rfl
def CntD (D:DataW Unit) (done:List ByteArray):Prop:=IsMap D∧∀ s:ByteArray,(s ∈ done→D.atKey (fM s) (.lit (.int .i64 0))= .lit (.int .i64 1))∧(s ∉ done→D.atKey (fM s) (.lit (.int .i64 0))= .lit (.int .i64 0))
theorem CntD.nil:CntD (.map []) []:=⟨⟨[],rfl⟩,fun _=>⟨fun h=>(by cases h),fun _=>rfl⟩⟩
theorem sC {D:DataW Unit} (h:IsMap D) (k:Lit) (d:DataW Unit):IsMap (D.put k d):=by
 obtain ⟨es,rfl⟩:=h;exact ⟨_,rfl⟩
theorem CntD.put {D:DataW Unit} {done:List ByteArray} (h:CntD D done) {s:ByteArray}:CntD (D.put (fM s) (.lit (.int .i64 1))) (done++[s]):=by
 refine ⟨sC h.1 _ _,fun t=> ?_⟩
 by_cases e:t=s
 · subst e
   rw [atKey_put_same h.1 (iQ t)];exact ⟨fun _=>rfl,fun hn=>absurd (by simp) hn⟩
 · rw [atKey_put_other fun k=>e (iP k)]
   exact ⟨fun hm=>(h.2 t).1 (by simpa [e] using hm),fun hn=>(h.2 t).2 (by simpa [e] using hn)⟩
def qN (w:World) (g o:Nat) (Ls:List (List Dp)):Prop:=g<w.heap.size∧∀ k (h:k<Ls.length),∃ u,w.cell? ⟨g,o+k,none⟩=some u∧DepsAt w u Ls[k]
def cZ (Ls:List (List Dp)):List ByteArray:=Ls.flatten.map Dp.nm
noncomputable def dW (Ls:List (List Dp)):Bool:= @decide ((cZ Ls).Nodup) (Classical.propDecidable _)
theorem xK {Ls:List (List Dp)} {done rest:List ByteArray} {s:ByteArray} (h:cZ Ls=done++s::rest) (hs:s ∈ done):dW Ls=false:=by
 unfold dW;refine @decide_eq_false _ (Classical.propDecidable _) fun hn=> ?_
 rw [h,List.nodup_append] at hn;exact hn.2.2 s hs s List.mem_cons_self rfl
theorem mK {Ls:List (List Dp)} (h:(cZ Ls).Nodup):dW Ls=true:=by unfold dW;exact @decide_eq_true _ (Classical.propDecidable _) h
theorem oQ {l:List ByteArray} {s:ByteArray} (h:l.Nodup) (hs:s ∉ l):(l++[s]).Nodup:=by
 rw [List.nodup_append];refine ⟨h,by simp,?_⟩;intro a ha b hb e;rw [List.mem_singleton] at hb;subst hb e;exact hs ha
def iR (L:List Dp):Prop:=L.length≤16∧∀ d ∈ L,d.nm.size≤16
theorem eK {L:List Dp} (h:bH L=true):iR L:=by
 unfold bH at h;rw [Bool.and_eq_true,decide_eq_true_eq] at h;refine ⟨h.1,?_⟩
 have:∀ (M:List Dp) (q:Option ByteArray),cW q M=true→∀ d ∈ M,d.nm.size≤16:=by
  intro M
  induction M with
  |nil=>intro q _ d hd;cases hd
  |cons e M ih=>
   intro q hq d hd;rw [cW,Bool.and_eq_true,Bool.and_eq_true] at hq
   rcases List.mem_cons.1 hd with rfl|hd
   · have:=hq.1.1
     unfold bR at this;rw [Bool.and_eq_true] at this
     have:=this.1
     unfold Sc.bK at this;rw [Bool.and_eq_true,decide_eq_true_eq,aV] at this;exact this.2
   · exact ih _ hq.2 d hd
 exact this L none h.2
def KO (w:World) (M n:Nat) (D:DataW Unit) (w1:World):Prop:=Below w.heap.size w w1∧w1.ownsMap Tryz.prog 9 (plainElem Tryz.prog 3) M n D
theorem KO.alloc {w:World} {M n:Nat} {D:DataW Unit} {w1:World} (h:KO w M n D w1) (o:Obj):KO w M n D (w1.alloc o):=⟨aB h.1 (aD _ _),h.2.alloc o⟩
def AJ (w:World) (Ls:List (List Dp)) (L T:List Dp) (K:Nat) (j:Value) (wq:World):Prop:=∃ (m n:Nat) (D:DataW Unit) (done:List ByteArray),m≤L.length∧j= .int .i64 m∧n≤16*K+m∧KO w w.heap.size n D wq∧CntD D done∧done.Nodup∧cZ Ls=done++(L.drop m++T).map Dp.nm
set_option maxHeartbeats 6400000 in
theorem vA {Ls:List (List Dp)} {g o cap:Nat} {w:World} (h:qN w g o Ls) (hs:∀ L ∈ Ls,iR L) (hln:Ls.length≤16):
 Calls Tryz.prog 198 #[.slice (some ⟨g,o,none⟩) Ls.length cap] w fun e w'=>e= .returned (.bool (dW Ls))∧Below w.heap.size w w':=by
 have HP:Hid (∀ k (h:k<Ls.length),∃ u,∀ w1,Below w.heap.size w w1→w1.cell? ⟨g,o+k,none⟩=some u∧DepsAt w1 u Ls[k]):=fun k hk=>(h.2 k hk).imp fun u hu w1 hb=>⟨(hb.cell (p:=⟨g,o+k,none⟩) h.1).trans hu.1,hu.2.below hb⟩
 have HS:=aA hs;clear h hs;have hmm:= @run_makeMap Tryz.prog;have HM0:Hid (KO w w.heap.size 0 (.map []) (w.alloc (.map #[] 0))):=⟨aD _ _,World.ownsMap_made (H:=Unit) w Tryz.prog 9 (plainElem Tryz.prog 3)⟩
 go_enter Tryz.func198,Tryz.ntmps198
 go_wp2_with fail
 go_loopw [11] (fun i wr=>∃ (k n:Nat) (D:DataW Unit) (done:List ByteArray),k≤Ls.length∧i= .int .i64 k∧n≤16*k∧KO w w.heap.size n D wr∧CntD D done∧done.Nodup∧cZ Ls=done++(Ls.drop k).flatten.map Dp.nm) (fun i _=>Ls.length - (intOf i).toNat)
 case atStart=>exact ⟨0,0,.map [],[],Nat.zero_le _,rfl,Nat.le_refl _,HM0.out,CntD.nil,List.nodup_nil,rfl⟩
 case round=>
  obtain ⟨k,n,D,done,hk,rfl,hn,hko,hcn,hnd,hnm⟩:=hrel
  by_cases hkl:k<Ls.length
  · obtain ⟨u,HU⟩:=HP.out k hkl
    obtain ⟨cu,hdu⟩:=HU wr hko.1;obtain ⟨AA,CC,rfl,hzc⟩:=hdu.len;have HU:=aA HU;clear hdu;have HSL:=aA (HS.out _ (List.getElem_mem hkl));have HKO0:=aA hko;have HCN0:=aA hcn;have HND0:=aA hnd
    have HNM0:Hid (cZ Ls=done++(Ls[k]++(Ls.drop (k+1)).flatten).map Dp.nm):=by
     unfold Hid;rw [hnm,List.drop_eq_getElem_cons hkl,List.flatten_cons]
    have l1:=HSL.out.1;clear hko hcn hnd hnm;generalize Ls[k]=L at*;generalize hT:(Ls.drop (k+1)).flatten=T at*;have HT:=aA hT;clear hT
    go_wp2_with fail
    go_loopw [17] (fun j wq=>AJ w Ls L T k j wq) (fun j _=>L.length - (intOf j).toNat)
    case atStart=>exact ⟨0,n,D,done,Nat.zero_le _,rfl,by omega,HKO0.out,HCN0.out,HND0.out,HNM0.out⟩
    case round=>
     clear HKO0 HCN0 HND0 HNM0 cu;obtain ⟨m,n,D,done,hm,rfl,hn,hko,hcn,hnd,hnm⟩:=hrel
     by_cases hlt:m<L.length
     · obtain ⟨ad,cap,e,_,hcs⟩:=(HU.out wr hko.1).2
       cases e
       obtain ⟨g,o,rfl,hg,hcs⟩:∃ g o,AA=some ⟨g,o,none⟩∧g<wr.heap.size∧∀ i (h:i<L.length),∃ u,DpIn wr g (o+i*2) L[i] u:=by
        rcases hcs with h|h
        · rw [h] at hlt;simp at hlt
        · exact h
       obtain ⟨u,p0,p1,⟨⟨hu,_⟩,_⟩,p3⟩:=hcs m hlt;obtain ⟨au,cu,rfl⟩:=hu.sl;have hnz:L[m].nm.size≤16:=HSL.out.2 _ (List.getElem_mem hlt)
       have HNM1:Hid (cZ Ls=done++L[m].nm::(L.drop (m+1)++T).map Dp.nm):=by
        unfold Hid;rw [hnm,List.drop_eq_getElem_cons hlt];rfl
       clear hcs hu hnm;generalize L[m].rg.length=lu at*;generalize L[m].nm=s at*;have hkey:keyOf Tryz.prog 9 (.string s)=some (fM s):=oP (by unfold maxLen;omega);have HKA:Hid (KO w w.heap.size n D (wr.alloc (.cells #[.string s,.slice au lu cu] 89))):=hko.alloc _;obtain ⟨c,hrun,hat,_⟩:=HKA.out.2.lookup_int eZ Tryz.underlying210 Tryz.underlying3 (fN _) hkey;have hBX:Hid (BxD (wr.alloc (.cells #[.string s,.slice au lu cu] 89)) wr.heap.size s (.slice au lu cu)):=BxD.new rfl _ _;have hMw:w.heap.size<wr.heap.size:=hko.2.lt;have hBw:=hko.1.size
       by_cases hin:s ∈ done
       · rw [(hcn.2 s).1 hin] at hat
         obtain rfl:c=1:=by injection hat with h1;injection h1 with _ h2;exact h2.symm
         have HR:=aA (xK HNM1.out hin);have HMP:=aA hcn.1;clear hko hcn hnd HNM1
         go_wp2_with (at_mapUpdate;refine wpList_mapUpdate_own _ rfl _ _ _ 210 rfl 9 3 eZ Tryz.underlying210 _ w.heap.size n D rfl HKA.out.2 (by unfold maxLen;omega) _ _ _ rfl rfl hkey _ [] (plainElem_int (H:=Unit) Tryz.underlying3 (show (Lit.int .i64 2).wf=true by decide)) ?_;intro w5 hown5 hg5;obtain ⟨c5,hrun5,hat5,_⟩:=hown5.lookup_int eZ Tryz.underlying210 Tryz.underlying3 (fN _) hkey;rw [atKey_put_same HMP.out (iQ s)] at hat5;obtain rfl:c5=2:=(by injection hat5 with h1;injection h1 with _ h2;exact h2.symm);have b0:w5.cell? ⟨wr.heap.size,0,none⟩=some (.string s):=(hg5.cell_far ⟨wr.heap.size,0,none⟩ (by simp) (by simp;omega)).trans hBX.out.1;have HB5:Hid (Below w.heap.size w w5):=HKA.out.1.grown hg5 HKA.out.1.size (fun j hj=>by cases hj;omega);clear hat5)
         go_ret;exact ⟨aC HR.out.symm,HB5.out⟩
       · rw [(hcn.2 s).2 hin] at hat
         obtain rfl:c=0:=by injection hat with h1;injection h1 with _ h2;exact h2.symm
         have HCN2:Hid (CntD (D.put (fM s) (.lit (.int .i64 1))) (done++[s])):=hcn.put;have HND2:=aA (oQ hnd hin);have HNM2:Hid (cZ Ls=(done++[s])++(L.drop (m+1)++T).map Dp.nm):=by unfold Hid;rw [HNM1.out];simp
         have HMP:=aA hcn.1;clear hko hcn hnd HNM1
         go_wp2_with (at_mapUpdate;refine wpList_mapUpdate_own _ rfl _ _ _ 210 rfl 9 3 eZ Tryz.underlying210 _ w.heap.size n D rfl HKA.out.2 (by unfold maxLen;omega) _ _ _ rfl rfl hkey _ [] (plainElem_int (H:=Unit) Tryz.underlying3 (show (Lit.int .i64 1).wf=true by decide)) ?_;intro w5 hown5 hg5;obtain ⟨c5,hrun5,hat5,_⟩:=hown5.lookup_int eZ Tryz.underlying210 Tryz.underlying3 (fN _) hkey;rw [atKey_put_same HMP.out (iQ s)] at hat5;obtain rfl:c5=1:=(by injection hat5 with h1;injection h1 with _ h2;exact h2.symm);have b0:w5.cell? ⟨wr.heap.size,0,none⟩=some (.string s):=(hg5.cell_far ⟨wr.heap.size,0,none⟩ (by simp) (by simp;omega)).trans hBX.out.1;have HB5:Hid (KO w w.heap.size (n+1) (D.put (fM s) (.lit (.int .i64 1))) w5):=⟨HKA.out.1.grown hg5 HKA.out.1.size (fun j hj=>by cases hj;omega),hown5⟩;clear hat5)
         exact ⟨⟨m+1,n+1,_,_,by omega,by go_num,by omega,HB5.out,HCN2.out,HND2.out,HNM2.out⟩,by simp [intOf];omega⟩
     · have HNM2:Hid (cZ Ls=done++T.map Dp.nm):=by unfold Hid;rw [hnm,List.drop_of_length_le (by omega)];rfl
       have HKO:=aA hko;have HCN:=aA hcn;have HND:=aA hnd;clear hko hcn hnd hnm
       go_wp2
       exact ⟨⟨k+1,n,D,done,by omega,by go_num,by omega,HKO.out,HCN.out,HND.out,by rw [HT.out];exact HNM2.out⟩,by simp [intOf];omega⟩
  · have HND:Hid (dW Ls=true):=mK (by rw [hnm,List.drop_of_length_le (by omega)];simpa using hnd)
    have HKO:=aA hko;clear hko hcn hnd hnm
    go_wp2
    go_ret;exact ⟨aC HND.out.symm,HKO.out.1⟩
end Go.Proofs.YtpfemjlhklnfoaaGreatDoor
namespace Go.Proofs.YtpfemjlhklnfoaaGreatDoor.Sc
open Go.RowKit
set_option maxRecDepth 100000
theorem yQ:(Tryz.prog.info? 173).map (·.size)=some 2:=by kernel_rfl
theorem zY:liesAt Tryz.prog Tryz.prog.depth 173 (2 / Tryz.prog.cellsOf 173) 0 173 1=true:=by kernel_rfl
theorem zZ:(Tryz.prog.info? 5).map (fun i=>(i.zero,i.size,i.bytes))=some (some (.int .u8 0),1,1):=by kernel_rfl
set_option maxHeartbeats 1600000 in
theorem oR (b:Nat) (w:World) (h0:w.cell? ⟨b,0,none⟩=some (.pointer (some ⟨b,0,none⟩))):
 Calls Tryz.prog 199 #[.pointer (some ⟨b,0,none⟩)] w fun e w'=>e= .returned (.tuple #[])∧w'=w:=by
 obtain ⟨j,hj,_⟩:=Option.map_eq_some_iff.1 yQ
 go_enter Tryz.func199,Tryz.ntmps199
 go_wp2
 rw [Lib.run_neq_ptr_same w _ Tryz.underlying170 hj]
 go_wp2
 go_end0
 exact ⟨rfl,rfl⟩
set_option maxHeartbeats 1600000 in
theorem mL (b:Nat) (w:World) (h0:w.cell? ⟨b,0,none⟩=some (.pointer none)) (hsh:w.shape? b=some (173,2)) (hfz:w.frozen? ⟨b,0,none⟩=false):
 Calls Tryz.prog 199 #[.pointer (some ⟨b,0,none⟩)] w fun e w'=>e= .returned (.tuple #[])∧w'=w.setCell ⟨b,0,none⟩ (.pointer (some ⟨b,0,none⟩)):=by
 obtain ⟨j,hj,hjs⟩:=Option.map_eq_some_iff.1 yQ
 go_enter Tryz.func199,Tryz.ntmps199
 go_wp2
 rw [Lib.run_to_unsafe w ⟨b,0,none⟩ Tryz.underlying170 Tryz.underlying266 hj (by rw [hjs];decide) hsh (Nat.zero_lt_succ 1)];simp only [Result.andThen];rw [Oper.upon_value]
 go_wp2
 rw [run_callFunc_extern Tryz.func233 (by kernel_rfl) (by kernel_rfl) (by kernel_rfl) (e:=Extern.AbiNoEscape.same) (by kernel_rfl),Lib.run_noEscape];simp only [Result.andThen];rw [Oper.upon_value]
 go_wp2
 rw [Lib.run_from_unsafe w ⟨b,0,none⟩ Tryz.underlying266 Tryz.underlying170 hj hsh zY];simp only [Result.andThen];rw [Oper.upon_value]
 go_wp2
 go_end0
 exact ⟨rfl,rfl⟩
def Bld (B b:Nat) (l:Bs) (w:World):Prop:=Lib.IsBuilder 173 5 B b (Lib.byteCells l) w
end Go.Proofs.YtpfemjlhklnfoaaGreatDoor.Sc
namespace Go.Proofs.YtpfemjlhklnfoaaGreatDoor
open Go.RowKit
set_option maxRecDepth 100000
theorem oS {A:Rg} (hl:A.length≤64):(dT A).size≤4096:=by
 cases A with
 |nil=>have:=bX 0 0 0;have z:(⟨#[60]⟩:ByteArray).size=1:=rfl;show (⟨#[60]⟩++aZ 0 0 0).size≤4096;rw [bA];omega
 |cons p A=>
  show (⟨(Lib.join ((p::A).map fun p=>(spT p).data.toList) [32,124,124,32]).toArray⟩:ByteArray).size≤4096;rw [oH,List.map_cons,Lib.join_length,←List.map_cons (f:=fun p=>(spT p).data.toList)]
  have:=kO 27 ((p::A).map fun p=>(spT p).data.toList) (by
   intro x hx;obtain ⟨q,_,rfl⟩:=List.mem_map.1 hx;exact iH _ _ _ _ _ _)
  simp only [List.length_map,List.length_cons,List.length_nil] at*;omega
def FarB (b:Nat) (w w':World):Prop:=∀ N cs t fr,w.heap[N]? =some (.cells cs t fr)→t≠5→N≠b→w'.heap[N]? =some (.cells cs t fr)
theorem FarB.refl (b:Nat) (w:World):FarB b w w:=fun _ _ _ _ h _ _=>h
theorem FarB.trans {b:Nat} {w w1 w2:World} (h:FarB b w w1) (h2:FarB b w1 w2):FarB b w w2:=fun N cs t fr hh ht hn=>h2 N cs t fr (h N cs t fr hh ht hn) ht hn
theorem FarB.set {b:Nat} {w w1:World} (h:FarB b w w1) (i:Nat) (u:Value):FarB b w (w1.setCell ⟨b,i,none⟩ u):=fun N cs t fr hh ht hn=>(Below.heap_setCell _ _ _ _ hn).trans (h N cs t fr hh ht hn)
theorem FarB.below {b:Nat} {w w':World} (h:Below w.heap.size w w'):FarB b w w':=fun N _ _ _ hh _ _=>(h.block N (Array.getElem?_eq_some_iff.1 hh).1).trans hh
theorem sD {B b:Nat} {l:Sc.Bs} {w:World} (h:Sc.Bld B b l w):
 Calls Tryz.prog 199 #[.pointer (some ⟨b,0,none⟩)] w fun e w'=>e= .returned (.tuple #[])∧Lib.BuilderAt 173 5 B b (.pointer (some ⟨b,0,none⟩)) (Lib.byteCells l) w'∧Below B w w'∧FarB b w w':=by
 rcases h with h|h
 · refine (Sc.mL b w h.cell0 h.shape h.frozen0).mono ?_
   rintro e w' ⟨rfl,rfl⟩;exact ⟨rfl,h.used _,(Below.refl B w).setCell (p:=⟨b,0,none⟩) h.1 _,(FarB.refl b w).set _ _⟩
 · refine (Sc.oR b w h.cell0).mono ?_
   rintro e w' ⟨rfl,rfl⟩;exact ⟨rfl,h,Below.refl B _,FarB.refl b _⟩
set_option maxHeartbeats 1600000 in
theorem mM {B b:Nat} {l:Sc.Bs} {w:World} (s:ByteArray) (h:Sc.Bld B b l w) (hl:l.length+s.size≤140737488355328) (hB:B≤w.heap.size):
 Calls Tryz.prog 131 #[.pointer (some ⟨b,0,none⟩),.string s] w fun e w'=>e= .returned (.tuple #[.int .i64 s.size,.nilIface])∧Sc.Bld B b (l++s.data.toList) w'∧Below B w w'∧FarB b w w':=by
 obtain ⟨i0,hi,hz0,hz1,hz2⟩:=Sc.bN Sc.zZ;have HC:=aA (sD h);have hlc:(Lib.byteCells l).length=l.length:=Lib.byteCells_length l
 go_enter Tryz.func131,Tryz.ntmps131
 go_wp2_with (go_at_call 199;refine HC.out.mono ?_)
 rintro e w1 ⟨rfl,h1,hb1,hf1⟩;obtain ⟨hBb,v,hbk,hown,hne⟩:=h1;have c0:w1.cell? ⟨b,0,none⟩=some (.pointer (some ⟨b,0,none⟩)):=by rw [Lib.cell_of_heap hbk];rfl
 have c1:w1.cell? ⟨b,1,none⟩=some v:=by rw [Lib.cell_of_heap hbk];rfl
 have hs1:=hb1.size
 go_wp2_with (at_builtin;refine Lib.wpList_append_own_string _ rfl _ _ 171 9 rfl B 5 i0 Tryz.underlying171 Tryz.underlying9 hi hz0 hz1 hz2 _ _ _ rfl hown s rfl (by unfold maxLen;omega) (by omega) (by omega) ?_)
 intro v' w2 hown' hgrow _;have hlt:b<w1.heap.size:=(Array.getElem?_eq_some_iff.1 hbk).1
 have hb2:w2.heap[b]? =some (.cells #[.pointer (some ⟨b,0,none⟩),v] 173 (0,0)):=by
  rw [hgrow.block b hlt (fun e=>hne e.symm)];exact hbk
 have HFA:Hid (FarB b w w2):=fun N cs t fr hh ht hn=>by
  have hN:=hf1 N cs t fr hh ht hn;refine (hgrow.block N (Array.getElem?_eq_some_iff.1 hN).1 (fun e=> ?_)).trans hN
  rcases hown.2 with ⟨hv,_⟩|⟨g,cap,cur,hv,_,hg,_⟩
  · rw [hv] at e;cases e
  · rw [hv] at e
    obtain rfl:N=g:=Option.some.inj e;rw [hN] at hg;injection hg with hg
    injection hg with _ hg _
    exact ht hg
 have d0:w2.cell? ⟨b,0,none⟩=some (.pointer (some ⟨b,0,none⟩)):=by rw [Lib.cell_of_heap hb2];rfl
 have d1:w2.cell? ⟨b,1,none⟩=some v:=by rw [Lib.cell_of_heap hb2];rfl
 have f1:w2.frozen? ⟨b,1,none⟩=false:=Lib.frozen_of_heap hb2 1
 obtain ⟨ao,n',cap,rfl⟩:∃ ao n' cap,v'= .slice ao n' cap:=by
  rcases hown'.2 with ⟨hv,_⟩|⟨g,cap,cur,hv,_⟩
  · exact ⟨_,_,_,hv⟩
  · exact ⟨_,_,_,hv⟩
 clear hf1
 go_wp2
 go_ret2;refine ⟨rfl,Or.inr ?_,?_,HFA.out.set _ _⟩
 · refine Lib.BuilderAt.put (T:=173) (e:=5) hBb hb2 ?_ (by decide)
   rw [Lib.byteCells_append,List.length_append,←Lib.strCells_eq,hlc]
   simpa [Lib.strCells_length] using hown'
 · exact (hb1.grown hgrow (by omega) (fun k hk=>(hown.lt k hk).1)).setCell (p:=⟨b,1,none⟩) hBb _
def jX (x n r:ByteArray):Sc.Bs:=x.data.toList++([32]++(n.data.toList++([32]++(r.data.toList++[10]))))
theorem xL {B b:Nat} {l:Sc.Bs} {w:World} (h:Sc.Bld B b l w):Calls Tryz.prog 136 #[.pointer (some ⟨b,0,none⟩)] w fun e w'=>e= .returned (.int .i64 l.length)∧w'=w:=by
 obtain ⟨v,c1,hv⟩:∃ v,w.cell? ⟨b,1,none⟩=some v∧∃ ad cap,v= .slice ad l.length cap:=by
  rcases h with ⟨_,v,hbk,hown,_⟩|⟨_,v,hbk,hown,_⟩<;>
  · refine ⟨v,by rw [Lib.cell_of_heap hbk];rfl,?_⟩
    rcases hown.2 with ⟨hv,hn⟩|⟨g,cap,cur,hv,_⟩
    · rw [Lib.byteCells_length] at hn
      exact ⟨none,0,by rw [hv,hn]⟩
    · rw [Lib.byteCells_length] at hv
      exact ⟨_,_,hv⟩
 obtain ⟨ad,cap,rfl⟩:=hv
 go_enter Tryz.func136,Tryz.ntmps136
 go_wp2
 go_ret;exact ⟨rfl,rfl⟩
def plS (s:Sp):Int×Int:=(aK s.a s.b s.c,aK s.x s.y s.z)
theorem yR {A:Rg} (hA:RangeR A):(A.map spR).map plS=A:=by
 rw [List.map_map]
 conv=>rhs;rw [←List.map_id A]
 refine List.map_congr_left fun p hp=> ?_
 obtain ⟨h1,h2,_⟩:=hA.ok p hp;show (aK (atA p.1) (atB p.1) (atC p.1),aK (atA p.2) (atB p.2) (atC p.2))=p;have e1:=(iC (n:=p.1) (by unfold dC;obtain ⟨a,b⟩:=h1;simp;omega)).2;have e2:=(iC (n:=p.2) (by unfold dC;obtain ⟨a,b⟩:=h2;simp;omega)).2;rw [e1,e2]
def prS (L:List Sp):ByteArray:=dT (L.map plS)
theorem sE {L:List Sp} {u:Value} {w:World} (h:bO L=true) (hu:SpansC w u L) (he:Env w) (hf:FL w):
 Calls Tryz.prog 201 #[u] w fun e w'=>e= .returned (.string (prS L))∧Below w.heap.size w w':=by
 unfold bO at h;rw [Bool.and_eq_true] at h;obtain ⟨A,rfl,hA,hl⟩:=kN.1 h.2;unfold prS;rw [yR hA];exact rN hA hl hu.rg he hf
theorem mN {L:List Sp} (h:bO L=true):(prS L).size≤4096:=by
 unfold bO at h;rw [Bool.and_eq_true] at h;obtain ⟨A,rfl,hA,hl⟩:=kN.1 h.2;unfold prS;rw [yR hA];exact oS hl
def bE (x:ByteArray) (L:List Dp):Sc.Bs:=L.flatMap fun d=>jX x d.nm (prS d.rg)
theorem oT {x:ByteArray} {L:List Dp} {k:Nat} (h:k<L.length):bE x (L.take (k+1))=bE x (L.take k)++jX x L[k].nm (prS L[k].rg):=by
 unfold bE;rw [List.take_succ_eq_append_getElem h,List.flatMap_append]
 simp
theorem iS:∀ {L:List Dp} {q:Option ByteArray},cW q L=true→∀ d ∈ L,d.nm.size≤16∧bO d.rg=true
 |[],_,_,d,hd=>by cases hd
 |e::M,q,hq,d,hd=>by
  rw [cW,Bool.and_eq_true,Bool.and_eq_true] at hq
  rcases List.mem_cons.1 hd with rfl|hd
  · have:=hq.1.1
    unfold bR at this;rw [Bool.and_eq_true] at this
    have:=this.1
    unfold Sc.bK at this;rw [Bool.and_eq_true,decide_eq_true_eq,aV] at this;exact ⟨this.2,hq.1.2⟩
  · exact iS hq.2 d hd
theorem vB {x n r:ByteArray} (hx:x.size≤16) (hn:n.size≤16) (hr:r.size≤4096):(jX x n r).length≤5000:=by
 unfold jX;simp only [List.length_append,aV,List.length_cons,List.length_nil];omega
theorem fO {x:ByteArray} (hx:x.size≤16) {L:List Dp} (h:bH L=true) (k:Nat):(bE x (L.take k)).length≤80000:=by
 unfold bH at h;rw [Bool.and_eq_true,decide_eq_true_eq] at h
 have:∀ M:List Dp,(∀ d ∈ M,d.nm.size≤16∧bO d.rg=true)→(bE x M).length≤5000*M.length:=by
  intro M
  induction M with
  |nil=>intro _;simp [bE]
  |cons d M ih=>
   intro hM;have h1:=ih fun e he=>hM e (List.mem_cons_of_mem _ he)
   have h2:=vB (x:=x) hx (hM d List.mem_cons_self).1 (mN (hM d List.mem_cons_self).2)
   have:bE x (d::M)=jX x d.nm (prS d.rg)++bE x M:=by unfold bE;simp
   rw [this,List.length_append,List.length_cons];omega
 have h2:=this (L.take k) fun d hd=>iS h.2 d (List.mem_of_mem_take hd)
 have h3:(L.take k).length≤16:=by rw [List.length_take];omega
 omega
def TW (w1:World) (l:Sc.Bs) (w':World):Prop:=Sc.Bld w1.heap.size w1.heap.size l w'∧Below w1.heap.size w1 w'
theorem sF {B b:Nat} {l:Sc.Bs} {w w':World} (h:Sc.Bld B b l w) (hb:Below w.heap.size w w'):Sc.Bld B b l w':=by
 have step:∀ p,Lib.BuilderAt 173 5 B b p (Lib.byteCells l) w→Lib.BuilderAt 173 5 B b p (Lib.byteCells l) w':=by
  rintro p ⟨hB,v,hbk,hown,hne⟩;refine ⟨hB,v,(hb.block b (Array.getElem?_eq_some_iff.1 hbk).1).trans hbk,⟨hown.1,hown.2.imp id ?_⟩,hne⟩;rintro ⟨g,cap,cur,rfl,h1,hg,h2⟩;exact ⟨g,cap,cur,rfl,h1,(hb.block g (Array.getElem?_eq_some_iff.1 hg).1).trans hg,h2⟩
 exact h.imp (step _) (step _)
theorem fA (w1:World) (l:Sc.Bs):KeepP (TW w1 l):=fun _ _ h hb=>⟨sF h.1 hb,aB h.2 hb⟩
theorem TW.new (w1:World):TW w1 [] (w1.alloc (.cells #[.pointer none,.slice none 0 0] 173)):=⟨Lib.fresh_isBuilder _ _ w1,aD _ _⟩
theorem TW.far {w1:World} {l:Sc.Bs} {w':World} (h:TW w1 l w'):w1.heap.size<w'.heap.size:=by
 rcases h.1 with h|h<;>exact h.lt
theorem TW.put {w1 wz:World} {l:Sc.Bs} (h:TW w1 l wz) (s:ByteArray) (hl:l.length≤1000000000) (hs:s.size≤1000000):
 Calls Tryz.prog 131 #[.pointer (some ⟨w1.heap.size,0,none⟩),.string s] wz fun e w'=>e= .returned (.tuple #[.int .i64 s.size,.nilIface])∧TW w1 (l++s.data.toList) w'∧FarB w1.heap.size wz w':=by
 refine (mM s h.1 (by omega) h.2.size).mono ?_;rintro e w' ⟨rfl,g1,g2,g3⟩;exact ⟨rfl,⟨g1,h.2.trans g2⟩,g3⟩
set_option maxHeartbeats 6400000 in
theorem sG {w1 wz:World} {l:Sc.Bs} {v:Value} {L:List Dp} {x:ByteArray} (h:TW w1 l wz) (hd:DepsAt w1 v L) (hm:bH L=true) (he:Env w1) (hf:FL w1) (hx:x.size≤16) (hl:l.length≤1000000):
 Calls Tryz.prog 135 #[.pointer (some ⟨w1.heap.size,0,none⟩),.string x,v] wz fun e w'=>e= .returned (.tuple #[])∧TW w1 (l++bE x L) w'∧FarB w1.heap.size wz w':=by
 have HD:Hid (∀ w',Below w1.heap.size w1 w'→DepsAt w' v L):=fun w' hb=>hd.below hb
 have HSP:Hid (∀ w2 u (R:List Sp),Below w1.heap.size w1 w2→bO R=true→SpansC w2 u R→Calls Tryz.prog 201 #[u] w2 fun e w'=>e= .returned (.string (prS R))∧Below w2.heap.size w2 w'):=fun w2 u R hb hr hu=>sE hr hu (he.below hb) (hf.below hb)
 have HAll:Hid (∀ d ∈ L,d.nm.size≤16∧bO d.rg=true):=by
  have:=hm
  unfold bH at this;rw [Bool.and_eq_true] at this;exact iS this.2
 have HLN:=aA (fO hx hm);have h16:=(eK hm).1
 have HPU:Hid (∀ (l1:Sc.Bs) w2 (s:ByteArray) (N:Nat) (bx:Obj),(TW w1 l1 w2∧FarB w1.heap.size wz w2)∧(w2.heap[N]? =some bx∧(∃ cs,bx= .cells cs 89 (0,0))∧w1.heap.size<N)→l1.length≤2000000→s.size≤1000000→Calls Tryz.prog 131 #[.pointer (some ⟨w1.heap.size,0,none⟩),.string s] w2 fun e w'=>e= .returned (.tuple #[.int .i64 s.size,.nilIface])∧(TW w1 (l1++s.data.toList) w'∧FarB w1.heap.size wz w')∧(w'.heap[N]? =some bx∧(∃ cs,bx= .cells cs 89 (0,0))∧w1.heap.size<N)):=fun l1 w2 s N bx h1 h2 h3=>by
  refine (h1.1.1.put s (by omega) h3).mono ?_;rintro e w' ⟨rfl,g1,g2⟩;obtain ⟨cs,rfl⟩:=h1.2.2.1;exact ⟨rfl,⟨g1,h1.1.2.trans g2⟩,g2 _ _ _ _ h1.2.1 (by decide) (by have:=h1.2.2.2;omega),⟨cs,rfl⟩,h1.2.2.2⟩
 have HT0:Hid (TW w1 l wz∧FarB w1.heap.size wz wz):=⟨h,FarB.refl _ _⟩;obtain ⟨ad,cap,rfl,hcp⟩:=hd.len;clear hd hm he hf h
 go_enter Tryz.func135,Tryz.ntmps135
 go_wp2_with fail
 go_loopw [10] (fun j wq=>∃ m:Nat,m≤L.length∧j= .int .i64 m∧TW w1 (l++bE x (L.take m)) wq∧FarB w1.heap.size wz wq) (fun j _=>L.length - (intOf j).toNat)
 case atStart=>exact ⟨0,Nat.zero_le _,rfl,by have:=HT0.out;simpa [bE] using this⟩
 case round=>
  clear HT0;obtain ⟨m,hm,rfl,htq⟩:=hrel;have HTQ:=aA htq
  by_cases hlt:m<L.length
  · obtain ⟨ad',cap',e,_,hcs⟩:=HD.out wr htq.1.2
    cases e
    obtain ⟨g,o,rfl,hg,hcs⟩:∃ g o,ad=some ⟨g,o,none⟩∧g<wr.heap.size∧∀ i (h:i<L.length),∃ u,DpIn wr g (o+i*2) L[i] u:=by
     rcases hcs with h|h
     · rw [h] at hlt;simp at hlt
     · exact h
    obtain ⟨u,p0,p1,⟨hu,_⟩,p3⟩:=hcs m hlt;obtain ⟨au,cu,rfl⟩:=hu.1.sl;obtain ⟨hnz2,hrb⟩:=HAll.out _ (List.getElem_mem hlt);have hpz:=mN hrb;have HSN:=aA (oT (x:=x) hlt)
    have hpl:(l++bE x (L.take m)).length≤1100000:=by
     have h1:=HLN.out m;rw [List.length_append];omega
    have HUS:Hid (SpansC (wr.alloc (.cells #[.string L[m].nm,.slice au L[m].rg.length cu] 89)) (.slice au L[m].rg.length cu) L[m].rg):=⟨hu.1.below (aD _ _),hu.2⟩;have HUB:Hid (g<wr.heap.size):=hg;have HSPd:=aA (fun w' (hb:Below w1.heap.size w1 w') (hc:SpansC w' (.slice au L[m].rg.length cu) L[m].rg)=>HSP.out w' _ _ hb hrb hc)
    have HO0:Hid ((TW w1 (l++bE x (L.take m)) (wr.alloc (.cells #[.string L[m].nm,.slice au L[m].rg.length cu] 89))∧FarB w1.heap.size wz (wr.alloc (.cells #[.string L[m].nm,.slice au L[m].rg.length cu] 89)))∧((wr.alloc (.cells #[.string L[m].nm,.slice au L[m].rg.length cu] 89)).heap[wr.heap.size]? =some (.cells #[.string L[m].nm,.slice au L[m].rg.length cu] 89 (0,0))∧(∃ cs,(Obj.cells #[.string L[m].nm,.slice au L[m].rg.length cu] 89 (0,0))= .cells cs 89 (0,0))∧w1.heap.size<wr.heap.size)):=by
     refine ⟨⟨fA _ _ _ _ htq.1 (aD _ _),htq.2.trans (FarB.below (aD _ _))⟩,?_,⟨_,rfl⟩,htq.1.far⟩;show (wr.heap.push _)[wr.heap.size]? =_;rw [Array.getElem?_push,if_pos rfl]
    have HUK:Hid (KeepP fun w'=>SpansC w' (.slice au L[m].rg.length cu) L[m].rg):=fun _ _ h hb=>⟨h.1.below hb,h.2⟩
    have HUW:Hid (∀ w',Below w1.heap.size w1 w'→SpansC w' (.slice au L[m].rg.length cu) L[m].rg):=fun w' hb=>by
     obtain ⟨ad2,cap2,e2,_,hcs2⟩:=HD.out w' hb;cases e2
     rcases hcs2 with h2|⟨g2,o2,e3,hg2,hcs2⟩
     · rw [h2] at hlt;simp at hlt
     · cases e3
       obtain ⟨u2,q0,q1,⟨hu2,_⟩,q3⟩:=hcs2 m hlt;obtain ⟨ad3,cap3,e4,_,hcs3⟩:=HD.out w1 (Below.refl _ _);cases e4
       rcases hcs3 with h4|⟨g4,o4,e5,hg4,hcs4⟩
       · rw [h4] at hlt;simp at hlt
       · cases e5
         obtain ⟨u5,r0,r1,_,_⟩:=hcs4 m hlt;have t1:=(hb.cell (p:=⟨g,o+m*2+1,none⟩) hg4).trans r1;have t2:=(HTQ.out.1.2.cell (p:=⟨g,o+m*2+1,none⟩) hg4).trans r1;rw [q1] at t1;rw [p1] at t2;cases t1;cases t2;exact hu2
    clear hcs hu htq;generalize prS L[m].rg=rt at*;generalize L[m].rg.length=lu at*;generalize L[m].nm=s at*;generalize hlm:l++bE x (L.take m)=lm at*;have HLM:=aA hlm;clear hlm;have l1:(lm++x.data.toList).length≤1100016:=by rw [List.length_append,aV];omega
    have l2:(lm++x.data.toList++[32]).length≤1100017:=by rw [List.length_append];simp at l1 ⊢;omega
    have l3:(lm++x.data.toList++[32]++s.data.toList).length≤1100033:=by rw [List.length_append,aV];omega
    have l4:(lm++x.data.toList++[32]++s.data.toList++[32]).length≤1100034:=by rw [List.length_append];simp at l3 ⊢;omega
    have l5:(lm++x.data.toList++[32]++s.data.toList++[32]++rt.data.toList).length≤1200000:=by rw [List.length_append,aV];omega
    go_wp2_with (first
     |(have _h:=HO0;go_at_call 131;refine (HPU.out _ _ x _ _ HO0.out (by omega) (by omega)).mono ?_;rintro e w2 ⟨rfl,ok⟩;have HO1:=aA ok;clear ok HO0)
     |(have _h:=HO1;go_at_call 131;refine (HPU.out _ _ ⟨#[32]⟩ _ _ HO1.out (Nat.le_trans l1 (by decide)) (by decide)).mono ?_;rintro e w3 ⟨rfl,ok⟩;have HO2:=aA ok;clear ok HO1;have d0:w3.cell? ⟨wr.heap.size,0,none⟩=some (.string s):=(by rw [Lib.cell_of_heap HO2.out.2.1];rfl))
     |(have _h:=HO2;go_at_call 131;refine (HPU.out _ _ s _ _ HO2.out (Nat.le_trans l2 (by decide)) (by omega)).mono ?_;rintro e w4 ⟨rfl,ok⟩;have HO3:=aA ok;clear ok HO2 d0)
     |(have _h:=HO3;go_at_call 131;refine (HPU.out _ _ ⟨#[32]⟩ _ _ HO3.out (Nat.le_trans l3 (by decide)) (by decide)).mono ?_;rintro e w5 ⟨rfl,ok⟩;have HO4:=aA ok;clear ok HO3;have d1:w5.cell? ⟨wr.heap.size,1,none⟩=some (.slice au lu cu):=(by rw [Lib.cell_of_heap HO4.out.2.1];rfl))
     |(have _h:=HO4;go_at_call 201;refine (HSPd.out _ HO4.out.1.1.2 (HUW.out _ HO4.out.1.1.2)).mono ?_;rintro e w6 ⟨rfl,ok⟩;have HO5:Hid ((TW w1 (lm++x.data.toList++[32]++s.data.toList++[32]) w6∧FarB w1.heap.size wz w6)∧(w6.heap[wr.heap.size]? =some (.cells #[.string s,.slice au lu cu] 89 (0,0))∧(∃ cs,(Obj.cells #[.string s,.slice au lu cu] 89 (0,0))= .cells cs 89 (0,0))∧w1.heap.size<wr.heap.size)):=⟨⟨fA _ _ _ _ HO4.out.1.1 ok,HO4.out.1.2.trans (FarB.below ok)⟩,(ok.block wr.heap.size (Array.getElem?_eq_some_iff.1 HO4.out.2.1).1).trans HO4.out.2.1,HO4.out.2.2⟩;clear ok HO4 d1)
     |(have _h:=HO5;go_at_call 131;refine (HPU.out _ _ rt _ _ HO5.out (Nat.le_trans l4 (by decide)) (by omega)).mono ?_;rintro e w7 ⟨rfl,ok⟩;have HO6:=aA ok;clear ok HO5)
     |(have _h:=HO6;go_at_call 131;refine (HPU.out _ _ ⟨#[10]⟩ _ _ HO6.out (Nat.le_trans l5 (by decide)) (by decide)).mono ?_;rintro e w8 ⟨rfl,ok⟩;have HO7:=aA ok;clear ok HO6))
    refine ⟨⟨m+1,by omega,by go_num,?_,HO7.out.1.2⟩,by simp [intOf];omega⟩;have e:l++bE x (L.take (m+1))=lm++x.data.toList++[32]++s.data.toList++[32]++rt.data.toList++[10]:=by rw [HSN.out,←HLM.out];unfold jX;simp
    rw [e];exact HO7.out.1.1
  · have HTN:Hid (TW w1 (l++bE x L) wr∧FarB w1.heap.size wz wr):=by
     have:=HTQ.out
     rw [List.take_of_length_le (by omega)] at this;exact this
    clear htq
    go_wp2
    go_end0
    exact ⟨rfl,HTN.out.1,HTN.out.2⟩
end Go.Proofs.YtpfemjlhklnfoaaGreatDoor
namespace Go.Proofs.YtpfemjlhklnfoaaGreatDoor
open Go.Shelf Go.RowKit Go.Lib Go.Sort
set_option maxRecDepth 100000
structure Vn where
 a:Int
 b:Int
 c:Int
 deriving DecidableEq,Inhabited
def zJ (x y:Vn):Int:=bQ y.a y.b y.c x.a x.b x.c
def gtV (x y:Vn):Bool:=decide (y.a<x.a∨y.a=x.a∧(y.b<x.b∨y.b=x.b∧y.c<x.c))
theorem ltG (x y:Vn):ltOf zJ x y=gtV x y:=by
 unfold ltOf zJ gtV bQ
 grind
theorem xM {x y:Vn}:gtV x y=true↔(y.a<x.a∨y.a=x.a∧(y.b<x.b∨y.b=x.b∧y.c<x.c)):=by unfold gtV;rw [decide_eq_true_eq]
theorem oU {x y:Vn}:gtV x y=false↔¬ (y.a<x.a∨y.a=x.a∧(y.b<x.b∨y.b=x.b∧y.c<x.c)):=by unfold gtV;rw [decide_eq_false_iff_not]
theorem sH {x y:Vn} (h1:gtV x y=false) (h2:gtV y x=false):x=y:=by
 rw [oU] at h1 h2;obtain ⟨a,b,c⟩:=x;obtain ⟨a',b',c'⟩:=y
 simp only at h1 h2
 obtain rfl:a=a':=by omega
 obtain rfl:b=b':=by omega
 obtain rfl:c=c':=by omega
 rfl
end Go.Proofs.YtpfemjlhklnfoaaGreatDoor
namespace Go.Proofs.YtpfemjlhklnfoaaGreatDoor
open Go.RowKit Go.Maps Go.WideMaps
set_option maxRecDepth 100000
theorem AB (w:World):(zeroValue 3).run Tryz.prog w= .ok (.int .i64 0) w:=by kernel_rfl
end Go.Proofs.YtpfemjlhklnfoaaGreatDoor
