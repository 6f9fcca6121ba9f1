/- ScNm2, Tw2, Tw3, Tw4, Pk3, Pk4: their declarations that are needed, laid in one text, remarks and blanks left out. -/
import Derived.Deep.DeepAppendWide
import Derived.Lib.LazyBuf
import Derived.Maps.Own
import Derived.Maps.Views
import Derived.Test.YtmnhnofnlcbliaaGreatDoorMg07
namespace Go.Proofs.YtmnhnofnlcbliaaGreatDoor.Sc
open Go.RowKit
set_option maxRecDepth 100000
def EZ:Bs→Bool
 |[]=>false
 |b::_=>ltB b
def aK (t:Bs):Bool:=EZ t&&t.all nmB&&decide (t.length≤16)
theorem vD {p:ByteArray}:p.toList.isEmpty=p.data.toList.isEmpty:=by rw [ByteArray.toList_eq]
theorem FA {t:Bs} (h:t.isEmpty=true):aK t=false:=by cases t<;>simp_all [aK,EZ]
theorem Ap {s:ByteArray} (h:0<s.size):EZ s.data.toList=ltB s[0]:=by
 have:s.data.toList=s[0]::s.data.toList.drop 1:=by
  have:=List.drop_eq_getElem_cons (l:=s.data.toList) (i:=0) (by rw [aI];exact h)
  rw [List.drop_zero] at this;exact this
 rw [this];rfl
theorem WJ {s:ByteArray} (h:s.toList.isEmpty=false):0<s.size:=by
 rw [vD] at h;rw [←aI];cases hs:s.data.toList with
 |nil=>rw [hs] at h;cases h
 |cons _ _=>simp
theorem PB {s:ByteArray} {k:Nat} (hk:k<s.size) {f:UInt8→Bool} (h:f s[k]=false):s.data.toList.all f=false:=by
 rw [Bool.eq_false_iff];intro ha;rw [List.all_eq_true] at ha
 have:=ha s[k] (List.getElem_mem (l:=s.data.toList) (n:=k) (by rw [aI];exact hk))
 rw [h] at this;cases this
theorem pT {s:ByteArray} {k:Nat} (hk:k<s.size) {f:UInt8→Bool} (h:(s.data.toList.take k).all f=true) (hb:f s[k]=true):(s.data.toList.take (k+1)).all f=true:=by
 rw [List.take_succ_eq_append_getElem (by rw [aI];exact hk),List.all_append,h];simp only [List.all_cons,List.all_nil,Bool.and_true,Bool.true_and];exact hb
theorem PC {s:ByteArray} {f:UInt8→Bool} (h:(s.data.toList.take s.size).all f=true):s.data.toList.all f=true:=by
 rw [List.take_of_length_le (by rw [aI];exact Nat.le_refl _)] at h;exact h
set_option maxHeartbeats 3200000 in
theorem eK (s:ByteArray) (w:World):Calls Tryz.prog 53 #[.string s] w fun e w'=>e= .returned (.bool (aK s.data.toList))∧w'=w:=by
 cases he:s.toList.isEmpty
 · have h0:=WJ he
   by_cases h16:s.size≤16
   · have HH:=aB (Ap h0)
     have HL:=aB (vC s[0]);cases hl:ltB s[0]
     · have HR:Hid (aK s.data.toList=false):=by unfold Hid aK;rw [HH.out,hl];rfl
       rw [hl] at HL;clear hl
       go_enter Tryz.func53,Tryz.ntmps53
       go_wp2_with (go_at_call 104;refine (HL.out _).mono ?_;rintro e w1 ⟨rfl,hw1⟩;subst hw1)
       go_ret;exact ⟨aD HR.out.symm,rfl⟩
     · rw [hl] at HL HH
       clear hl;have HLT:Hid (∀ b:UInt8,∀ w1,Calls Tryz.prog 104 #[.int .u8 (b.toNat:Int)] w1 fun e w'=>e= .returned (.bool (ltB b))∧w'=w1):=vC;have HDG:Hid (∀ b:UInt8,∀ w1,Calls Tryz.prog 105 #[.int .u8 (b.toNat:Int)] w1 fun e w'=>e= .returned (.bool (dgB b))∧w'=w1):=SE
       go_enter Tryz.func53,Tryz.ntmps53
       go_wp2_with (go_at_call 104;refine (HL.out _).mono ?_;rintro e w1 ⟨rfl,hw1⟩;subst hw1;clear HL)
       go_loop [19] (fun i=>∃ k:Nat,k≤s.size∧i= .int .i64 k∧(s.data.toList.take k).all nmB=true) (fun i=>s.size - (intOf i).toNat)
       case atStart=>exact ⟨0,Nat.zero_le _,rfl,rfl⟩
       case round=>
        obtain ⟨k,hk,rfl,hal⟩:=hrel;have HA:=aB hal;clear hal
        by_cases hlt:k<s.size
        · have HLk:=aB (HLT.out s[k])
          have HDk:=aB (HDG.out s[k]);cases h1:ltB s[k]
          · cases h2:dgB s[k]
            · by_cases h3:s[k].toNat=45
              · have hn:nmB s[k]=true:=by unfold nmB;rw [h1,h2,decide_eq_true h3];rfl
                have HA2:=aB (pT hlt HA.out hn);have e3:((s[k].toNat:Int)==45)=true:=by rw [beq_iff_eq];omega
                rw [h1] at HLk;rw [h2] at HDk;clear h1 h2 h3 hn
                go_wp2_with (first|(go_at_call 104;refine (HLk.out _).mono ?_;rintro e w1 ⟨rfl,hw1⟩;subst hw1)|(go_at_call 105;refine (HDk.out _).mono ?_;rintro e w1 ⟨rfl,hw1⟩;subst hw1))
                exact ⟨⟨k+1,by omega,by go_num,HA2.out⟩,by simp [intOf];omega⟩
              · have hn:nmB s[k]=false:=by unfold nmB;rw [h1,h2,decide_eq_false h3];rfl
                have HR:Hid (aK s.data.toList=false):=by unfold Hid aK;rw [PB hlt hn];simp
                have e3:((s[k].toNat:Int)==45)=false:=by rw [beq_eq_false_iff_ne];omega
                rw [h1] at HLk;rw [h2] at HDk;clear h1 h2 h3 hn
                go_wp2_with (first|(go_at_call 104;refine (HLk.out _).mono ?_;rintro e w1 ⟨rfl,hw1⟩;subst hw1)|(go_at_call 105;refine (HDk.out _).mono ?_;rintro e w1 ⟨rfl,hw1⟩;subst hw1))
                go_ret;exact ⟨aD HR.out.symm,rfl⟩
            · have hn:nmB s[k]=true:=by unfold nmB;rw [h1,h2];rfl
              have HA2:=aB (pT hlt HA.out hn);rw [h1] at HLk;rw [h2] at HDk;clear h1 h2 hn
              go_wp2_with (first|(go_at_call 104;refine (HLk.out _).mono ?_;rintro e w1 ⟨rfl,hw1⟩;subst hw1)|(go_at_call 105;refine (HDk.out _).mono ?_;rintro e w1 ⟨rfl,hw1⟩;subst hw1))
              exact ⟨⟨k+1,by omega,by go_num,HA2.out⟩,by simp [intOf];omega⟩
          · have hn:nmB s[k]=true:=by unfold nmB;rw [h1];rfl
            have HA2:=aB (pT hlt HA.out hn);rw [h1] at HLk;clear h1 hn
            go_wp2_with (go_at_call 104;refine (HLk.out _).mono ?_;rintro e w1 ⟨rfl,hw1⟩;subst hw1)
            exact ⟨⟨k+1,by omega,by go_num,HA2.out⟩,by simp [intOf];omega⟩
        · have hke:k=s.size:=by omega
          subst hke;have HR:Hid (aK s.data.toList=true):=by unfold Hid aK;rw [HH.out,PC HA.out,aI,decide_eq_true h16];rfl
          go_wp2
          go_ret;exact ⟨aD HR.out.symm,rfl⟩
   · have HR:Hid (aK s.data.toList=false):=by unfold Hid aK;rw [aI,decide_eq_false h16];simp
     go_enter Tryz.func53,Tryz.ntmps53
     go_wp2
     go_ret;exact ⟨aD HR.out.symm,rfl⟩
 · have HR:Hid (aK s.data.toList=false):=FA (by rw [←vD];exact he)
   go_enter Tryz.func53,Tryz.ntmps53
   go_wp2
   go_ret;exact ⟨aD HR.out.symm,rfl⟩
end Go.Proofs.YtmnhnofnlcbliaaGreatDoor.Sc
namespace Go.Proofs.YtmnhnofnlcbliaaGreatDoor
open Go.RowKit
set_option maxRecDepth 100000
noncomputable def bT (L:List Dr) (p:List ByteArray):Int:=match L.findIdx? (fun d=>eqB d.pa p) with
 |some i=>(i:Int)
 |none=> -1
theorem FB {L:List Dr} {p:List ByteArray} {k:Nat} (hk:k<L.length) (h:L[k].pa=p) (hall:∀ j (_:j<k) (h1:j<L.length),L[j].pa≠p):bT L p=k:=by
 have e:L.findIdx? (fun d=>eqB d.pa p)=some k:=by
  rw [List.findIdx?_eq_some_iff_getElem];refine ⟨hk,aX h,fun j hj=> ?_⟩;rw [bX (hall j hj (by omega))]
  simp
 unfold bT;rw [e]
theorem FC {L:List Dr} {p:List ByteArray} (hall:∀ j (h1:j<L.length),L[j].pa≠p):bT L p= -1:=by
 have e:L.findIdx? (fun d=>eqB d.pa p)=none:=by
  rw [List.findIdx?_eq_none_iff];intro d hd;obtain ⟨i,hi,rfl⟩:=List.getElem_of_mem hd;exact bX (hall i hi)
 unfold bT;rw [e]
theorem pU (L:List Dr) (p:List ByteArray):(bT L p= -1∧∀ j (h1:j<L.length),L[j].pa≠p)∨∃ k,∃ hk:k<L.length,bT L p=(k:Int)∧L[k].pa=p∧∀ j (_:j<k) (h1:j<L.length),L[j].pa≠p:=by
 cases e:L.findIdx? (fun d=>eqB d.pa p) with
 |none=>
  rw [List.findIdx?_eq_none_iff] at e
  have hall:∀ j (h1:j<L.length),L[j].pa≠p:=fun j h1 h=>by
   have:=e _ (List.getElem_mem h1)
   rw [aX h] at this;cases this
  exact Or.inl ⟨FC hall,hall⟩
 |some k=>
  rw [List.findIdx?_eq_some_iff_getElem] at e;obtain ⟨hk,h,hall⟩:=e;have h1:L[k].pa=p:=eW.1 h;have h2:∀ j (_:j<k) (h1:j<L.length),L[j].pa≠p:=fun j hj h1 h=>hall j hj (aX h)
  exact Or.inr ⟨k,hk,FB hk h1 h2,h1,h2⟩
theorem FD (L:List Dr) (p:List ByteArray):bT L p<L.length:=by
 rcases pU L p with ⟨h,_⟩|⟨k,hk,h,_⟩<;>rw [h]<;>omega
theorem mL (L:List Dr) (p:List ByteArray): -1≤bT L p:=by
 rcases pU L p with ⟨h,_⟩|⟨k,hk,h,_⟩<;>rw [h]<;>omega
noncomputable def lookN (L:List Dr) (p:List ByteArray) (s:ByteArray):Nat→Int
 |0=>bT L (p.take 0++[s])
 |k+1=>if bT L (p.take (k+1)++[s])= -1 then lookN L p s k else bT L (p.take (k+1)++[s])
noncomputable def cR (L:List Dr) (f:Int) (s:ByteArray):Int:=if h:0≤f∧f.toNat<L.length∧Sc.aK s.data.toList=true then lookN L (L[f.toNat]'h.2.1).pa s (L[f.toNat]'h.2.1).pa.length else -1
theorem WK {L:List Dr} {p:List ByteArray} {s:ByteArray} {k:Nat} (h:bT L (p.take k++[s])≠ -1):lookN L p s k=bT L (p.take k++[s]):=by
 cases k with
 |zero=>rfl
 |succ k=>unfold lookN;rw [if_neg h]
theorem SF {L:List Dr} {p:List ByteArray} {s:ByteArray} {k:Nat} (h:bT L (p.take (k+1)++[s])= -1):lookN L p s (k+1)=lookN L p s k:=by
 rw [lookN,if_pos h]
theorem FE (L:List Dr) (p:List ByteArray) (s:ByteArray):∀ k,lookN L p s k<L.length∧ -1≤lookN L p s k
 |0=>⟨FD _ _,mL _ _⟩
 |k+1=>by
  unfold lookN
  split
  · exact FE L p s k
  · exact ⟨FD _ _,mL _ _⟩
theorem vE (L:List Dr) (f:Int) (s:ByteArray):cR L f s<L.length∧ -1≤cR L f s:=by
 unfold cR
 split
 · exact FE _ _ _ _
 · omega
def BxT (w:World) (N:Nat) (v:Value):Prop:=w.cell? ⟨N,0,none⟩=some v∧N<w.heap.size
theorem cL (N:Nat) (v:Value):KeepP fun w1=>BxT w1 N v:=fun _ _ h hb=>⟨(hb.cell (p:=⟨N,0,none⟩) h.2).trans h.1,Nat.lt_of_lt_of_le h.2 hb.size⟩
theorem BxT.new (w:World) (v:Value):BxT (w.alloc (.cells #[v] 30)) w.heap.size v:=⟨by simp,by simp⟩
set_option maxHeartbeats 1600000 in
theorem rK {L:List Dr} {v:Value} {p:List ByteArray} {vp:Value} {w:World} (h:DirsAt w v L) (hz:L.length≤9223372036854775807) (hf:FitD L) (hp:PathAt w vp p):
 Calls Tryz.prog 57 #[.agg #[v],vp] w fun e w'=>e= .returned (.int .i64 (bT L p))∧Below w.heap.size w w':=by
 have HE:Hid (∀ w1,Below w.heap.size w w1→∀ u A,PathAt w1 u A→A.length≤9223372036854775807→Calls Tryz.prog 107 #[u,vp] w1 fun e w'=>e= .returned (.bool (eqB A p))∧Below w1.heap.size w1 w'):=fun w1 hb u A hu hl=>KV hu (hp.below hb) hl
 obtain ⟨ad,cap,rfl,hc,hsl⟩:=h.sl
 have HS:Hid (∀ w1,Below w.heap.size w w1→∀ i (_:i<L.length),∃ g o,ad=some ⟨g,o,none⟩∧∃ u v1 v2 v3,DrIn w1 g (o+i*9) L[i] u v1 v2 v3):=fun w1 hb i hi=>by
  obtain ⟨g,o,e,u,v1,v2,v3,hd⟩:=hsl i hi;exact ⟨g,o,e,u,v1,v2,v3,hd.below hb⟩
 have HF:=aB hf;obtain ⟨pd,pc,rfl⟩:=hp.sl;clear h hp hsl hf
 go_enter Tryz.func57,Tryz.ntmps57
 go_wp2_with fail
 go_loopw [9] (fun i wr=>∃ k:Nat,k≤L.length∧i= .int .i64 k∧(Below w.heap.size w wr∧BxT wr w.heap.size (.slice ad L.length cap))∧∀ j (_:j<k) (h1:j<L.length),L[j].pa≠p) (fun i _=>L.length - (intOf i).toNat)
 case atStart=>exact ⟨0,Nat.zero_le _,rfl,⟨aC _ _,BxT.new _ _⟩,fun j h=>by omega⟩
 case round=>
  obtain ⟨k,hk,rfl,⟨hb,bx0,bx1⟩,hall⟩:=hrel;have HALL:=aB hall;have HB:=aB hb;clear hall
  by_cases hlt:k<L.length
  · obtain ⟨g,o,rfl,u,v1,v2,v3,⟨c0,c1,c2,c3,c4,c5,c6,c7,c8⟩,⟨hpa,hpk⟩,hg⟩:=HS.out wr hb k hlt
    have HC:=aB (HE.out wr hb u _ hpa (HF.out _ (List.getElem_mem hlt)));have HY:Hid (L[k].pa=p→bT L p=k):=fun h=>FB hlt h HALL.out
    have HN:Hid (L[k].pa≠p→∀ j (_:j<k+1) (h1:j<L.length),L[j].pa≠p):=fun h j hj h1=>by
     rcases Nat.lt_or_ge j k with hjk|hjk
     · exact HALL.out j hjk h1
     · obtain rfl:j=k:=by omega
       exact h
    obtain ⟨ua,uc,rfl⟩:=hpa.sl;clear c1 c2 c3 c4 c5 c6 c7 c8 hpk hpa hb;have HBX:Hid (BxT wr w.heap.size (.slice (some ⟨g,o,none⟩) L.length cap)):=⟨bx0,bx1⟩;generalize L[k].pa.length=n at*
    by_cases hq:L[k].pa=p
    · have HR:=aB (HY.out hq)
      rw [aX hq] at HC;clear HY HN HALL hq
      go_wp2_with (go_at_call 107;refine HC.out.mono ?_;rintro x w1 ⟨rfl,ok⟩)
      go_ret;exact ⟨Sc.cV HR.out.symm,aA HB.out ok⟩
    · have HR:=aB (HN.out hq)
      rw [bX hq] at HC;clear HY HN HALL hq
      go_wp2_with (go_at_call 107;refine HC.out.mono ?_;rintro x w1 ⟨rfl,ok⟩)
      exact ⟨⟨k+1,by omega,by go_num,⟨aA HB.out ok,cL _ _ _ _ HBX.out ok⟩,HR.out⟩,by simp [intOf];omega⟩
  · have hke:k=L.length:=by omega
    subst hke;have HR:Hid (bT L p= -1):=FC fun j h1=>HALL.out j h1 h1
    clear hb
    go_wp2
    go_ret;exact ⟨Sc.cV HR.out.symm,HB.out⟩
def pcs (L:List ByteArray):List Value:=L.map .string
theorem oI (L:List ByteArray):(pcs L).length=L.length:=by simp [pcs]
theorem Aq (L:List ByteArray):∀ u ∈ pcs L,u.oneCell'=true:=fun u hu=>by
 obtain ⟨s,_,rfl⟩:=List.mem_map.1 hu;rfl
def OwnPa (w:World) (B:Nat) (v:Value) (L:List ByteArray):Prop:=w.ownsRow B 9 1 v L.length (pcs L)
theorem OwnPa.below {w w':World} {B:Nat} {v:Value} {L:List ByteArray} (h:OwnPa w B v L) (hb:Below w.heap.size w w'):OwnPa w' B v L:=by
 refine ⟨h.1,?_⟩
 rcases h.2 with hn|⟨g,cap,cur,rfl,hB,hgg,r⟩
 · exact Or.inl hn
 · exact Or.inr ⟨g,cap,cur,rfl,hB,(hb.block g (Array.getElem?_eq_some_iff.1 hgg).1).trans hgg,r⟩
theorem OwnPa.form {w:World} {B:Nat} {v:Value} {L:List ByteArray} (h:OwnPa w B v L):∃ ad cap,v= .slice ad L.length cap∧L.length≤cap:=by
 rcases h.2 with ⟨rfl,hn⟩|⟨g,cap,cur,rfl,hB,hg,hc,_⟩
 · exact ⟨none,0,by rw [hn],by omega⟩
 · exact ⟨_,cap,rfl,hc⟩
theorem OwnPa.at {w:World} {B:Nat} {v:Value} {L:List ByteArray} (h:OwnPa w B v L):PathAt w v L:=by
 have h0:=h
 rcases h.2 with ⟨rfl,hn⟩|⟨g,cap,cur,rfl,hB,hg,hc,_⟩
 · exact ⟨none,0,by rw [hn],by omega,Or.inl (List.eq_nil_of_length_eq_zero hn)⟩
 · refine ⟨_,cap,rfl,hc,Or.inr ⟨g,0,rfl,fun i hi=>⟨?_,(Array.getElem?_eq_some_iff.1 hg).1⟩⟩⟩
   have:=World.ownsRow.cellAt h0 i (by omega)
   rw [Nat.zero_add,this];simp [pcs,hi]
theorem OwnPa.cut {w:World} {B:Nat} {ad:Option Addr} {n cap:Nat} {L:List ByteArray} (h:OwnPa w B (.slice ad n cap) L) {k:Nat} (hk:k≤n):OwnPa w B (.slice ad k cap) (L.take k):=by
 have hln:n=L.length:=by
  obtain ⟨_,_,e,_⟩:=h.form;injection e
 subst hln;have hkl:(L.take k).length=k:=by rw [List.length_take];omega
 refine ⟨by rw [oI,Nat.mul_one],?_⟩
 rcases h.2 with ⟨e,hn⟩|⟨g,cap',cur,e,hB,hg,hc,hm,hs,ht⟩
 · injection e with e1 e2 e3
   refine Or.inl ⟨?_,by omega⟩;rw [e1,e3,show k=0 by omega]
 · injection e with e1 e2 e3
   refine Or.inr ⟨g,cap',cur,by rw [e1,e3,hkl],hB,hg,by omega,hm,hs,?_⟩;rw [hkl,Nat.mul_one];rw [Nat.mul_one] at ht
   have:cur.toList.take k=(cur.toList.take L.length).take k:=by rw [List.take_take,Nat.min_eq_left hk]
   rw [this,ht];unfold pcs;rw [List.map_take]
theorem SG {w:World} {g o:Nat} {L:List ByteArray} (h:∀ i (h:i<L.length),StIn w g (o+i) L[i]):∀ j u,(pcs L)[j]? =some u→w.cell? ((⟨g,o,none⟩:Addr).add j)=some u:=fun j u hj=>by
 have ad:(⟨g,o,none⟩:Addr).add j=⟨g,o+j,none⟩:=by unfold Addr.add;split<;>simp_all
 rw [ad]
 have hl:j<L.length:=by
  have:=(List.getElem?_eq_some_iff.1 hj).1
  rwa [oI] at this
 rw [(h j hl).1,←hj];simp [pcs,hl]
theorem BU (w:World) (B:Nat) (t ty e:TypeId) (i:TypeInfo) (z:Value) (bytes:Nat) (ht:Tryz.prog.underlying t=some (.slice e)) (hi:Tryz.prog.info? e=some i) (hz:i.zero=some z) (hsize:i.size=1) (hby:i.bytes=bytes) (hzs:z.cells.size=1)
 (v:Value) (n:Nat) (xs:List Value) (hown:w.ownsRow B e 1 v n xs) (a:Addr) (c:Nat) (x:Value) (hx:∀ j u,[x][j]? =some u→w.cell? (a.add j)=some u) (h1:x.oneCell'=true)
 (hb:((n+1)+(n+1) / 4+192)*bytes≤281474976710656) (hn:n+1≤maxLen) (hB:B≤w.heap.size):
 ∃ v' w',(Builtin.append_ #[t,t] ty #[v,.slice (some a) 1 c]).run Tryz.prog w= .ok v' w'∧w'.ownsRow B e 1 v' (n+1) (xs++[x])∧w'.ownsRow B e 1 v n xs∧w.grownBy w' v.ownBlock:=by
 obtain ⟨v',w',hr,h2,h3,_⟩:=run_append_own_wide (P:=Tryz.prog) w B t ty e i z 1 bytes ht hi hz hsize hby hzs (by decide) v n xs hown a 1 c [x] rfl hx (by simpa using h1) hn hb hB;refine ⟨v',w',hr,h2,?_,h3⟩
 rcases hown.2 with ⟨rfl,rfl⟩|⟨g,cap,cur,rfl,hbg,hg,hnc,hcm,hcs,htk⟩
 · exact ⟨hown.1,Or.inl ⟨rfl,rfl⟩⟩
 · by_cases hroom:n+1≤cap
   · have hr2:=run_append_room (P:=Tryz.prog) w t ty e i ht hi g n cap cur hg a 1 c [x] (by rw [hsize];rfl) hx (by simpa using h1) hroom (by rw [hsize,hcs];simp;omega)
     rw [hr] at hr2;obtain ⟨_,rfl⟩:=Result.ok.inj hr2;refine ⟨hown.1,Or.inr ⟨g,cap,_,rfl,hbg,setRow_heap w g cur _ e _ hg,hnc,hcm,?_,?_⟩⟩
     · rw [hsize]
       simp only [List.size_toArray,List.length_append,List.length_take,List.length_drop,Array.length_toList,List.length_singleton];omega
     · rw [hsize]
       rw [Nat.mul_one] at htk ⊢
       have hl:(cur.toList.take n).length=n:=by
        rw [htk]
        have:=hown.1
        omega
       show List.take n (cur.toList.take n++[x]++_)=xs;rw [List.append_assoc,List.take_append_of_le_length (by omega),List.take_of_length_le (by omega),htk]
   · have hr2:=run_append_grow (P:=Tryz.prog) w t ty e i z ht hi hz ⟨g,0,none⟩ n cap xs (by rw [hsize];exact hown.1) (hown.cells (g:=g) rfl) a 1 c [x] (by rw [hsize];rfl) hx (by omega) (by unfold maxLen at hn;omega) (growslice_fits_wide (by omega) (by rw [hby];exact hb))
     rw [hr] at hr2;obtain ⟨_,rfl⟩:=Result.ok.inj hr2;exact hown.drew.alloc _
theorem SH {B:Nat} {wx:World} {n:Nat} {v:Value} {xs:List Value} {s0:ByteArray} {ops:Array Oper} {o:Oper} {f:Act} {K:Act→World→Prop} {Q:Exit→Act→World→Prop} {E:Prop}
 (hgd:o.guard=none) (s t:Operand) (ho:o.op= .call { callee:= .builtin .append,args:= #[s,t],argTypes:= #[50,50] }) (hs:f.eval s=v)
 (hown:wx.ownsRow B 9 1 v n xs) (hB:B≤wx.heap.size) {M:Nat} (hM:wx.heap.size=M) (hx:f.eval t= .slice (some ⟨M,0,none⟩) 1 1) (hb:((n+1)+(n+1) / 4+192)*16≤281474976710656)
 (h:∀ v1 w1,w1.ownsRow B 9 1 v1 (n+1) (xs++[.string s0])→w1.ownsRow B 9 1 v n xs→(wx.alloc (.cells #[.string s0] 9)).grownBy w1 v.ownBlock→K (f.put o.dst v1) w1):
 if Region.wanted o (yielded ops f.tmps)=true then Oper.wp Tryz.prog o f (wx.alloc (.cells #[.string s0] 9)) K Q else E:=by
 have hw:Region.wanted o (yielded ops f.tmps)=true:=by simp [Region.wanted,hgd]
 rw [if_pos hw];subst hM;obtain ⟨i0,hi,hz0,hz1,hz2⟩:=Sc.bK Sc.mX;obtain ⟨v1,w1,hr,h1,h2,h3⟩:=BU (wx.alloc (.cells #[.string s0] 9)) B 50 o.type 9 i0 _ 16 Tryz.underlying50 hi hz0 hz1 hz2 rfl v n xs (hown.alloc _) ⟨wx.heap.size,0,none⟩ 1 (.string s0) (cell_one_new _ _ _) rfl hb (by unfold maxLen;omega) (by simp;omega);unfold Oper.wp execOp;simp only [ho,resolve,invoke,builtin,Sem.run_bind,Sem.run_pure,Result.andThen_ok,List.map_toArray,List.map_cons,List.map_nil,hs,hx,hr];exact h v1 w1 h1 h2 h3
theorem WL (w:World):(w.alloc (.cells #[] 9)).ownsRow w.heap.size 9 1 (.slice (some ⟨w.heap.size,0,none⟩) 0 0) 0 []:=
 ⟨rfl,Or.inr ⟨w.heap.size,0,#[],rfl,Nat.le_refl _,heap_alloc_new w _,Nat.le_refl _,Nat.zero_le _,rfl,rfl⟩⟩
theorem mM {B:Nat} {w w1:World} {own:Option Nat} (hg:w.grownBy w1 own) (h:∀ g,own=some g→B≤g) (hB:B≤w.heap.size):Below B w w1:=⟨hg.os,hg.tape,hg.output,hg.size,fun k hk=>hg.block k (by omega) (fun e=>by have:=h k e.symm;omega)⟩
theorem pV {w w' w1:World} {row:Option Nat} (hb:Below w.heap.size w w') (hg:w'.grownBy w1 row):w.grownBy w1 row:=
 ⟨hg.os.trans hb.os,hg.tape.trans hb.tape,hg.output.trans hb.output,Nat.le_trans hb.size hg.size,fun k hk hn=>(hg.block k (Nat.lt_of_lt_of_le hk hb.size) hn).trans (hb.block k hk)⟩
theorem Gj (w:World) (o:Obj):Below w.heap.size w (w.drew.alloc o):=(Below.refl _ _).drew.alloc (Nat.le_refl _) _
set_option maxHeartbeats 1600000 in
theorem KW {L:List ByteArray} {v:Value} {w:World} (h:PathAt w v L) (hl:(L.length+L.length / 4+192)*16≤281474976710656):Calls Tryz.prog 56 #[v] w fun e w'=>∃ v',e= .returned v'∧OwnPa w' w.heap.size v' L∧Below w.heap.size w w':=by
 obtain ⟨ad,cap,rfl,hcp,hc⟩:=h;cases ad with
 |none=>
  obtain rfl:L=[]:=by
   rcases hc with e|⟨_,_,q,_⟩
   · exact e
   · cases q
  rw [List.length_nil];have q0:∀ w,(binOp .eql 50 (.slice none 0 cap) (.slice none 0 0)).run Tryz.prog w= .ok (.bool true) w:=fun w=>run_eql_slice_nil w 50 9 none 0 cap Tryz.underlying50
  go_enter Tryz.func56,Tryz.ntmps56
  go_wp2
  go_ret;exact ⟨_,rfl,⟨rfl,Or.inl ⟨rfl,rfl⟩⟩,Below.refl _ _⟩
 |some a=>
  obtain ⟨g,o,sp⟩:=a
  have HNW:Hid (∀ j u,(pcs L)[j]? =some u→(w.alloc (.cells #[] 9)).cell? ((⟨g,o,sp⟩:Addr).add j)=some u):=fun j u hj=>by
   rcases hc with e|⟨g',o',q,hs⟩
   · subst e;simp [pcs] at hj
   · cases q
     exact SG (fun i hi=>(hs i hi).below (aC w (.cells #[] 9))) j u hj
  have HRW:=aB (WL w);have q0:∀ w,(binOp .eql 50 (.slice (some ⟨g,o,sp⟩) L.length cap) (.slice none 0 0)).run Tryz.prog w= .ok (.bool false) w:=fun w=>run_eql_slice_nil w 50 9 (some ⟨g,o,sp⟩) L.length cap Tryz.underlying50
  clear hc;obtain ⟨i0,hi,hz0,hz1,hz2⟩:=Sc.bK Sc.mX
  go_enter Tryz.func56,Tryz.ntmps56
  go_wp2_with (at_builtin;refine wpList_append_own_wide _ rfl (.tmp 5) (.tmp 6) 50 rfl w.heap.size 9 i0 _ 1 16 Tryz.underlying50 hi hz0 hz1 hz2 rfl (by decide) _ 0 [] rfl HRW.out ⟨g,o,sp⟩ L.length cap (pcs L) rfl (by rw [oI];omega) HNW.out (Aq L) (by unfold maxLen;omega) (by rw [Nat.zero_add];omega) (by simp) ?_;intro v1 w1 ho hgr _;have HO:Hid (OwnPa w1 w.heap.size v1 L):=(by have e:=ho;rw [Nat.zero_add,List.nil_append] at e;exact e);have HB:Hid (Below w.heap.size w w1):=(aC w (.cells #[] 9)).trans (mM (B:=w.heap.size) hgr (fun g e=>by cases e;exact Nat.le_refl _) (by simp));clear ho hgr)
  go_ret;exact ⟨_,rfl,HO.out,HB.out⟩
def FitP1 (L:List Dr):Prop:=∀ d ∈ L,d.pa.length*16≤140737488355328
theorem FitP1.fit {L:List Dr} (h:FitP1 L):FitD L:=fun d hd=>by have:=h d hd;omega
theorem WM {L:List Dr} {k:Nat} {s:ByteArray} (hk:k<L.length) (hn:Sc.aK s.data.toList=true):cR L (k:Int) s=lookN L L[k].pa s L[k].pa.length:=by
 unfold cR;rw [dif_pos ⟨by omega,by simpa using hk,hn⟩];rfl
theorem SI {L:List Dr} {f:Int} {s:ByteArray} (h:¬ (0≤f∧f.toNat<L.length∧Sc.aK s.data.toList=true)):cR L f s= -1:=by
 unfold cR;rw [dif_neg h]
theorem WN (L:List ByteArray) (s:ByteArray):pcs (L++[s])=pcs L++[.string s]:=by simp [pcs]
set_option maxHeartbeats 3200000 in
theorem SJ {L:List Dr} {v:Value} {w:World} (h:DirsAt w v L) (hz:L.length≤9223372036854775807) (hf:FitP1 L) {k:Nat} (hk:k<L.length) (s:ByteArray) (hn:Sc.aK s.data.toList=true):
 Calls Tryz.prog 17 #[.agg #[v],.int .i64 k,.string s] w fun e w'=>e= .returned (.int .i64 (cR L k s))∧Below w.heap.size w w':=by
 have HN:Hid (∀ w1,Calls Tryz.prog 53 #[.string s] w1 fun e w'=>e= .returned (.bool true)∧w'=w1):=fun w1=>by have:=Sc.eK s w1;rw [hn] at this;exact this
 have HV:=aB (WM (L:=L) hk hn);have hfk:=hf _ (List.getElem_mem hk);have HFI:Hid (∀ w1,Below w.heap.size w w1→∀ vp p,PathAt w1 vp p→Calls Tryz.prog 57 #[.agg #[v],vp] w1 fun e w'=>e= .returned (.int .i64 (bT L p))∧Below w1.heap.size w1 w'):=fun w1 hb vp p hp=>rK (h.below hb) hz hf.fit hp
 obtain ⟨ad,cap,rfl,hc,hsl⟩:=h.sl;obtain ⟨g,o,rfl,u,v1,v2,v3,⟨c0,c1,c2,c3,c4,c5,c6,c7,c8⟩,⟨hpa,hpk⟩,hg⟩:=hsl k hk;have HCL:Hid (∀ w1,Below w.heap.size w w1→Calls Tryz.prog 56 #[u] w1 fun e w'=>∃ v',e= .returned v'∧OwnPa w' w1.heap.size v' L[k].pa∧Below w1.heap.size w1 w'):=fun w1 hb=>KW (hpa.below hb) (by omega)
 obtain ⟨ua,uc,rfl⟩:=hpa.sl;clear c1 c2 c3 c4 c5 c6 c7 c8 hpk hpa h hsl;generalize L[k].pa=p at*;have HFR:Hid (∀ q,bT L q= -1∨0≤bT L q):=fun q=>by have:=mL L q;omega
 clear hn hf;have c0':(w.alloc (.cells #[.slice (some ⟨g,o,none⟩) L.length cap] 30)).cell? ⟨g,o+k*9,none⟩=some (.slice ua p.length uc):=((aC w (.cells #[.slice (some ⟨g,o,none⟩) L.length cap] 30)).cell (p:=⟨g,o+k*9,none⟩) hg).trans c0
 go_enter Tryz.func17,Tryz.ntmps17
 go_wp2_with (first
  |(go_at_call 53;refine (HN.out _).mono ?_;rintro e w1 ⟨rfl,rfl⟩)
  |(go_at_call 56;refine (HCL.out _ (aC _ _)).mono ?_;rintro e w2 ⟨vc,rfl,hoc,hb2⟩;have HO2:Hid (OwnPa w2 (w.heap.size+1) vc p):=(by have e:=hoc;rw [show (w.alloc (.cells #[.slice (some ⟨g,o,none⟩) L.length cap] 30)).heap.size=w.heap.size+1 by simp] at e;exact e);have HB2:Hid (Below w.heap.size w w2∧BxT w2 w.heap.size (.slice (some ⟨g,o,none⟩) L.length cap)):=⟨aA (aC _ _) hb2,cL _ _ _ _ (BxT.new _ _) hb2⟩;clear hoc hb2))
 clear c0' c0;have HPT:Hid (p.take p.length=p):=List.take_length
 go_loopw [7] (fun vl wr=>∃ j:Nat,j≤p.length∧(∃ a c,vl= .slice a j c∧j≤c)∧OwnPa wr (w.heap.size+1) vl (p.take j)∧(Below w.heap.size w wr∧BxT wr w.heap.size (.slice (some ⟨g,o,none⟩) L.length cap))∧lookN L p s p.length=lookN L p s j) (fun vl _=>match vl with| .slice _ n _=>n|_=>0)
 case atStart=>
  obtain ⟨a,c,e,hac⟩:=HO2.out.form;exact ⟨p.length,Nat.le_refl _,⟨a,c,e,hac⟩,by rw [HPT.out];exact HO2.out,HB2.out,rfl⟩
 case round=>
  obtain ⟨j,hj,⟨a,c,rfl,hac⟩,hown,⟨hb,bx0,bx1⟩,hst⟩:=hrel;have hpl:(p.take j).length=j:=by rw [List.length_take];omega
  have HOW:Hid (wr.ownsRow (w.heap.size+1) 9 1 (.slice a j c) j (pcs (p.take j))):=(by have e:=hown;unfold OwnPa at e;rw [hpl] at e;exact e);have HB:=aB hb;have HST:=aB hst;have hBr:w.heap.size+1≤wr.heap.size:=bx1;have HBX:Hid (BxT wr w.heap.size (.slice (some ⟨g,o,none⟩) L.length cap)):=⟨bx0,bx1⟩;have HNE:Hid (some w.heap.size≠(Value.slice a j c).ownBlock):=fun e=>by have:=(World.ownsRow.lt HOW.out _ e.symm).1;omega
  have HAF:Hid (∀ v5 w5,w5.ownsRow (w.heap.size+1) 9 1 v5 (j+1) (pcs (p.take j)++[.string s])→w5.ownsRow (w.heap.size+1) 9 1 (.slice a j c) j (pcs (p.take j))→wr.grownBy w5 (Value.slice a j c).ownBlock→(PathAt w5 v5 (p.take j++[s])∧OwnPa w5 (w.heap.size+1) (.slice a j c) (p.take j))∧Below w.heap.size w w5∧BxT w5 w.heap.size (.slice (some ⟨g,o,none⟩) L.length cap)):=fun v5 w5 h1 h2 h3=>by
   refine ⟨⟨OwnPa.at (B:=w.heap.size+1) ?_,?_⟩,HB.out.grown h3 HB.out.size (fun q hq=>by have:=(World.ownsRow.lt HOW.out q hq).1;omega),h3.cell HBX.out.1 HNE.out,Nat.lt_of_lt_of_le HBX.out.2 h3.size⟩
   · unfold OwnPa
     rw [WN,List.length_append,hpl];exact h1
   · unfold OwnPa
     rw [hpl];exact h2
  have hwide:((j+1)+(j+1) / 4+192)*16≤281474976710656:=by omega
  clear hown hb hst;have HFC:Hid (∀ w5 v5,Below w.heap.size w w5→PathAt w5 v5 (p.take j++[s])→Calls Tryz.prog 57 #[.agg #[.slice (some ⟨g,o,none⟩) L.length cap],v5] w5 fun e w'=>e= .returned (.int .i64 (bT L (p.take j++[s])))∧Below w5.heap.size w5 w'):=fun w5 v5 hb hp=>HFI.out w5 hb v5 _ hp
  have HHIT:Hid (0≤bT L (p.take j++[s])→lookN L p s p.length=bT L (p.take j++[s])):=fun h=>by rw [HST.out];exact WK (by omega)
  have HEND:Hid (j=0→lookN L p s p.length=bT L (p.take j++[s])):=fun h=>by rw [HST.out];subst h;rfl
  have HGO:Hid (∀ i,j=i+1→bT L (p.take j++[s])= -1→lookN L p s p.length=lookN L p s i):=fun i h h2=>by rw [HST.out];subst h;exact SF h2
  have HOC:Hid (∀ w6,OwnPa w6 (w.heap.size+1) (.slice a j c) (p.take j)→∀ i,i≤j→OwnPa w6 (w.heap.size+1) (.slice a i c) (p.take i)):=fun w6 ho i hi=>by
   have:=ho.cut hi
   rw [List.take_take,Nat.min_eq_left hi] at this;exact this
  have HFJ:=aB (HFR.out (p.take j++[s]));generalize bT L (p.take j++[s])=f at*;clear hpl
  go_wp2_with fail
  go_region_held3 (fun w'=>w'.cell? ⟨w.heap.size,0,none⟩=some (.slice (some ⟨g,o,none⟩) L.length cap)) (go_keep) (first
   |(refine SH (B:=w.heap.size+1) (M:=wr.heap.size) (wx:=wr.drew) (v:= .slice a j c) (s0:=s) rfl (.tmp 36) (.tmp 38) rfl rfl HOW.out.drew hBr rfl rfl hwide ?_;intro v5 w5 h1 h2 h3;have HP5:=aB (HAF.out v5 w5 h1 h2 (pV (Gj _ _) h3));have b5:=HP5.out.2.2.1;clear h1 h2 h3)
   |(have _h:=HP5;go_at_call 57;refine (HFC.out _ _ HP5.out.2.1 HP5.out.1.1).mono ?_;rintro e w6 ⟨rfl,ok⟩;have HP6:Hid (OwnPa w6 (w.heap.size+1) (.slice a j c) (p.take j)∧Below w.heap.size w w6∧BxT w6 w.heap.size (.slice (some ⟨g,o,none⟩) L.length cap)):=⟨HP5.out.1.2.below ok,aA HP5.out.2.1 ok,cL _ _ _ _ HP5.out.2.2 ok⟩;have b6:=HP6.out.2.2.1;clear ok))
  all_goals clear HFC HAF HNE HOW
  all_goals rcases HFJ.out with hm|hge
  all_goals first
   |(have HR:=aB (HHIT.out hge)
     go_wp2
     go_ret;exact ⟨cV (by rw [HV.out,HR.out]),HP6.out.2.1⟩)
   |(rcases Nat.eq_zero_or_pos j with h0|h0
     · have HR:=aB (HEND.out h0)
       subst hm;subst h0
       go_wp2
       go_ret;exact ⟨cV (by rw [HV.out,HR.out]),HP6.out.2.1⟩
     · obtain ⟨i,rfl⟩:∃ i,j=i+1:=⟨j - 1,by omega⟩
       have HR:=aB (HGO.out i rfl hm);have HO7:=aB (HOC.out _ HP6.out.1 i (by omega));have hic:i≤c:=by omega
       subst hm;clear HGO HEND HHIT HFJ
       go_wp2
       exact ⟨⟨i,by omega,⟨a,c,rfl,hic⟩,HO7.out,HP6.out.2,HR.out⟩,by simp⟩)
theorem Ar {L:List Dr} {v:Value} {w:World} (h:DirsAt w v L) (f:Int) (s:ByteArray) (hno:¬ (0≤f∧f.toNat<L.length∧Sc.aK s.data.toList=true)):
 Calls Tryz.prog 17 #[.agg #[v],.int .i64 f,.string s] w fun e w'=>e= .returned (.int .i64 (cR L f s))∧Below w.heap.size w w':=by
 have HV:=aB (SI hno);have HN:Hid (∀ w1,Calls Tryz.prog 53 #[.string s] w1 fun e w'=>e= .returned (.bool (Sc.aK s.data.toList))∧w'=w1):=Sc.eK s;obtain ⟨ad,cap,rfl,hc,hsl⟩:=h.sl;clear h hsl
 by_cases h1:f<0
 · clear hno
   go_enter Tryz.func17,Tryz.ntmps17
   go_wp2
   go_ret;exact ⟨cV HV.out.symm,aC _ _⟩
 · by_cases h2:(L.length:Int)≤f
   · clear hno
     go_enter Tryz.func17,Tryz.ntmps17
     go_wp2
     go_ret;exact ⟨cV HV.out.symm,aC _ _⟩
   · have hnn:Sc.aK s.data.toList=false:=by
      cases hx:Sc.aK s.data.toList with
      |false=>rfl
      |true=>exact absurd ⟨by omega,by omega,hx⟩ hno
     rw [hnn] at HN;clear hno hnn;have h3:f<(L.length:Int):=by omega
     have h4:0≤f:=by omega
     go_enter Tryz.func17,Tryz.ntmps17
     go_wp2_with (go_at_call 53;refine (HN.out _).mono ?_;rintro e w1 ⟨rfl,rfl⟩)
     go_ret;exact ⟨cV HV.out.symm,aC _ _⟩
theorem WO {L:List Dr} {v:Value} {w:World} (h:DirsAt w v L) (hz:L.length≤9223372036854775807) (hf:FitP1 L) (f:Int) (s:ByteArray):
 Calls Tryz.prog 17 #[.agg #[v],.int .i64 f,.string s] w fun e w'=>e= .returned (.int .i64 (cR L f s))∧Below w.heap.size w w':=by
 by_cases hh:0≤f∧f.toNat<L.length∧Sc.aK s.data.toList=true
 · obtain ⟨k,rfl⟩:∃ k:Nat,f=k:=⟨f.toNat,by omega⟩
   exact SJ h hz hf (by simpa using hh.2.1) s hh.2.2
 · exact Ar h f s hh
def ltS (s t:ByteArray):Bool:=Op.bytesLess s.toList t.toList
def dD (q:Option ByteArray) (s:ByteArray):Bool:=Sc.aK s.data.toList&&(match q with
 |none=>true
 |some p=>ltS p s)
def bZ (L:List Sp):Bool:=decide (0<L.length)&&lE L
def dZ:Option ByteArray→List Dp→Bool
 |_,[]=>true
 |q,d::r=>dD q d.nm&&bZ d.rg&&dZ (some d.nm) r
def bV (L:List Dp):Bool:=decide (L.length≤16)&&dZ none L
def cU (L:List Dp):Option ByteArray:=L.getLast?.map (·.nm)
theorem DepsAt.len {w:World} {v:Value} {L:List Dp} (h:DepsAt w v L):∃ ad cap,v= .slice ad L.length cap∧L.length≤cap:=by
 obtain ⟨ad,cap,rfl,h,_⟩:=h;exact ⟨ad,cap,rfl,h⟩
theorem pW {v:Value} {L:List Sp} {w:World} (h:SpansAt w v L):
 Calls Tryz.prog 240 #[v] w fun e w'=>e= .returned (.bool (bZ L))∧Below w.heap.size w w':=by
 have HM:=aB (DZ h);obtain ⟨ad,cap,rfl⟩:=h.sl;clear h
 by_cases h0:0<L.length
 · have HR:Hid (bZ L=lE L):=by unfold Hid bZ;simp [h0]
   go_enter Tryz.func240,Tryz.ntmps240
   go_wp2_with (go_at_call 241;refine HM.out.mono ?_;rintro e w1 ⟨rfl,ok⟩)
   go_ret;exact ⟨aD HR.out.symm,ok⟩
 · have HR:Hid (bZ L=false):=by unfold Hid bZ;simp [h0]
   go_enter Tryz.func240,Tryz.ntmps240
   go_wp2
   go_ret;exact ⟨aD HR.out.symm,Below.refl _ _⟩
theorem nY {va:Value} {A:List Dp} {w:World} (h:DepsAt w va A) (hl:A.length≤1000000000000) (s:ByteArray):
 Calls Tryz.prog 239 #[va,.string s] w fun e w'=>e= .returned (.bool (dD (cU A) s))∧w'=w:=by
 have HN:Hid (Calls Tryz.prog 53 #[.string s] w fun e w'=>e= .returned (.bool (Sc.aK s.data.toList))∧w'=w):=Sc.eK s w;cases hn:Sc.aK s.data.toList
 · have HR:Hid (dD (cU A) s=false):=by unfold Hid dD;rw [hn];rfl
   rw [hn] at HN;obtain ⟨ad,cap,rfl⟩:=h.sl;clear h
   go_enter Tryz.func239,Tryz.ntmps239
   go_wp2_with (go_at_call 53;refine HN.out.mono ?_;rintro e w1 ⟨rfl,rfl⟩)
   go_ret;exact ⟨aD HR.out.symm,rfl⟩
 · rw [hn] at HN
   rcases List.eq_nil_or_concat A with rfl|⟨B,d,rfl⟩
   · have HR:Hid (dD (cU []) s=true):=by unfold Hid dD;rw [hn];rfl
     obtain ⟨ad,cap,rfl⟩:=h.sl;clear h
     go_enter Tryz.func239,Tryz.ntmps239
     go_wp2_with (go_at_call 53;refine HN.out.mono ?_;rintro e w1 ⟨rfl,rfl⟩)
     go_ret;exact ⟨aD HR.out.symm,rfl⟩
   · have HR:Hid (dD (cU (B++[d])) s=Op.bytesLess d.nm.toList s.toList):=by unfold Hid dD cU;rw [hn];simp [ltS]
     rw [List.concat_eq_append] at*;obtain ⟨ad,cap,rfl,hc,hs⟩:=h
     rcases hs with hs|⟨g,o,rfl,hg,hs⟩
     · simp at hs
     · obtain ⟨u,c0,hrest⟩:=hs B.length (by simp)
       clear hrest hs;simp only [List.getElem_concat_length] at c0;have hlen:(B++[d]).length=B.length+1:=by simp
       rw [hlen] at hl hc ⊢;generalize B.length=m at*;have w1:IntKind.i64.wrap (((m+1:Nat):Int) - 1)=(m:Int):=by rw [IntKind.wrap_i64];omega
       go_enter Tryz.func239,Tryz.ntmps239
       go_wp2_with (go_at_call 53;refine HN.out.mono ?_;rintro e w1 ⟨rfl,rfl⟩)
       go_ret;exact ⟨aD HR.out.symm,rfl⟩
theorem DepsAt.take {w:World} {ad:Option Addr} {cap:Nat} {L:List Dp} (h:DepsAt w (.slice ad L.length cap) L) {k:Nat} (hk:k≤L.length):DepsAt w (.slice ad k cap) (L.take k):=by
 obtain ⟨ad',cap',e,hc,hs⟩:=h;cases e;refine ⟨ad,cap,by simp [Nat.min_eq_left hk],by simp;omega,?_⟩
 rcases hs with rfl|⟨g,o,rfl,hg,hs⟩
 · exact Or.inl (by simp)
 · refine Or.inr ⟨g,o,rfl,hg,fun i hi=> ?_⟩
   have hi':i<L.length:=by simp at hi;omega
   obtain ⟨u,hu⟩:=hs i hi';exact ⟨u,by simpa using hu⟩
theorem KY {L:List Dp} {k:Nat} (h:k<L.length):cU (L.take (k+1))=some L[k].nm:=by
 unfold cU;rw [List.take_succ_eq_append_getElem h,List.getLast?_concat];rfl
def KM (w:World) (N:Nat) (s:ByteArray) (u:Value) (d:Dp) (va:Value) (A:List Dp) (w1:World):Prop:=Below w.heap.size w w1∧BxD w1 N s u∧SpansAt w1 u d.rg∧DepsAt w1 va A
theorem Ef (w:World) (N:Nat) (s:ByteArray) (u:Value) (d:Dp) (va:Value) (A:List Dp):KeepP (KM w N s u d va A):=(aG w).and ((PA _ _ _).and ((RL _ _).and (WD _ _)))
set_option maxHeartbeats 3200000 in
theorem BV (L:List Dp) (hlen:L.length≤16) (g o cap:Nat) (w:World) (h:DepsAt w (.slice (some ⟨g,o,none⟩) L.length cap) L) (hs:∀ i (h:i<L.length),∃ u,DpIn w g (o+i*2) L[i] u):
 Calls Tryz.prog 197 #[.slice (some ⟨g,o,none⟩) L.length cap] w fun e w'=>e= .returned (.bool (bV L))∧Below w.heap.size w w':=by
 have HL:Hid (∀ w1,Below w.heap.size w w1→∀ i (h:i<L.length),∃ u,DpIn w1 g (o+i*2) L[i] u):=fun w1 hb i hi=>(hs i hi).imp fun u h=>h.below hb
 have HD:Hid (∀ w1,Below w.heap.size w w1→∀ k,k≤L.length→DepsAt w1 (.slice (some ⟨g,o,none⟩) k cap) (L.take k)):=fun w1 hb k hk=>(h.below hb).take hk
 have HT:Hid (bV L=dZ none L):=by unfold Hid bV;simp [hlen]
 have hcap:L.length≤cap:=by obtain ⟨_,_,e,hc,_⟩:=h;cases e;exact hc
 have h16:decide ((16:Int)<(L.length:Int))=false:=decide_eq_false (by omega);clear h hs
 go_enter Tryz.func197,Tryz.ntmps197
 go_wp2_with fail
 go_loopw [10] (fun i wr=>∃ k:Nat,k≤L.length∧i= .int .i64 k∧Below w.heap.size w wr∧dZ none L=dZ (cU (L.take k)) (L.drop k)) (fun i _=>L.length - (intOf i).toNat)
 case atStart=>exact ⟨0,Nat.zero_le _,rfl,Below.refl _ _,rfl⟩
 case round=>
  obtain ⟨k,hk,rfl,hb,hall⟩:=hrel;have HALL:=aB hall;have HB:=aB hb;clear hall
  by_cases hlt:k<L.length
  · obtain ⟨u,c0,c1,⟨⟨hu,_⟩,_⟩,cg⟩:=HL.out wr hb k hlt
    have hd:=HD.out wr hb k hk;have hkc:(k:Int)≤(cap:Int):=by omega
    have hc0:¬ (cap=0):=by omega
    obtain ⟨ad,uc,rfl⟩:=hu.sl;have hdr:L.drop k=L[k]::L.drop (k+1):=List.drop_eq_getElem_cons hlt
    have HST:Hid (dZ none L=(dD (cU (L.take k)) L[k].nm&&bZ L[k].rg&&dZ (cU (L.take (k+1))) (L.drop (k+1)))):=by
     unfold Hid;rw [HALL.out,hdr,KY hlt];rfl
    have HO:Hid (KM w wr.heap.size L[k].nm (.slice ad L[k].rg.length uc) L[k] (.slice (some ⟨g,o,none⟩) k cap) (L.take k) (wr.alloc (.cells #[.string L[k].nm,.slice ad L[k].rg.length uc] 170))):=⟨aA hb (aC _ _),BxD.new rfl _ _,hu.below (aC _ _),hd.below (aC _ _)⟩;have HK:Hid (KeepP (KM w wr.heap.size L[k].nm (.slice ad L[k].rg.length uc) L[k] (.slice (some ⟨g,o,none⟩) k cap) (L.take k))):=Ef _ _ _ _ _ _ _;have HF:Hid (∀ w1,KM w wr.heap.size L[k].nm (.slice ad L[k].rg.length uc) L[k] (.slice (some ⟨g,o,none⟩) k cap) (L.take k) w1→Calls Tryz.prog 239 #[.slice (some ⟨g,o,none⟩) k cap,.string L[k].nm] w1 fun e w'=>e= .returned (.bool (dD (cU (L.take k)) L[k].nm))∧Below w1.heap.size w1 w'):=fun w1 hk1=>(nY hk1.2.2.2 (by simp;omega) _).mono fun e w' ⟨h1,h2⟩=>⟨h1,by rw [h2];exact Below.refl _ _⟩
    have HG:Hid (∀ w1,KM w wr.heap.size L[k].nm (.slice ad L[k].rg.length uc) L[k] (.slice (some ⟨g,o,none⟩) k cap) (L.take k) w1→Calls Tryz.prog 240 #[.slice ad L[k].rg.length uc] w1 fun e w'=>e= .returned (.bool (bZ L[k].rg))∧Below w1.heap.size w1 w'):=fun w1 hk1=>pW hk1.2.2.1
    clear hu hd hdr HALL hb;generalize dD (cU (L.take k)) L[k].nm=bf at*;generalize bZ L[k].rg=bg at*;generalize L[k].rg.length=n at*;generalize L[k].nm=s at*;generalize L[k]=d at*;cases bf
    · have HR:Hid (bV L=false):=by unfold Hid;rw [HT.out,HST.out];rfl
      clear HST HG
      go_wp2_with fail
      refine cE HK (by kernel_rfl) (by kernel_rfl) (by first|exact HO.out|exact HK.out.drew HO.out) ?_;intro C HIN HOUT;clear HO
      repeat
       (with_reducible refine wpQuiet_step (fun K hK=> ?_)
        go_simp
        first
         |(refine hK _ ?_;clear hK K)
         |(apply Exists.intro;refine ⟨fun w1 hC=> ?_,hK _ ?_⟩;(focus ((first|(go_at_call 239;with_reducible exact bJ HIN HOUT HK HF.out w1 hC)|(exact rfl)|(obtain ⟨hb1,⟨k0,k1,k2⟩,hs1,hd1⟩:=HOUT.out w1 hC;clear hC;go_simp;first|done|exact rfl));done));clear hK K))
      refine wpQuiet_nil ?_;intro wn hC;have HO:=aB (HOUT.out _ hC);clear hC HIN HOUT C;obtain ⟨hb1,⟨k0,k1,k2⟩,hs1,hd1⟩:=HO.out
      go_wp2
      go_ret;exact ⟨aD HR.out.symm,HO.out.1⟩
    · cases bg
      · have HR:Hid (bV L=false):=by unfold Hid;rw [HT.out,HST.out];rfl
        clear HST
        go_wp2_with fail
        refine cE HK (by kernel_rfl) (by kernel_rfl) (by first|exact HO.out|exact HK.out.drew HO.out) ?_;intro C HIN HOUT;clear HO
        repeat
         (with_reducible refine wpQuiet_step (fun K hK=> ?_)
          go_simp
          first
           |(refine hK _ ?_;clear hK K)
           |(apply Exists.intro;refine ⟨fun w1 hC=> ?_,hK _ ?_⟩;(focus ((first|(go_at_call 239;with_reducible exact bJ HIN HOUT HK HF.out w1 hC)|(go_at_call 240;with_reducible exact bJ HIN HOUT HK HG.out w1 hC)|(exact rfl)|(obtain ⟨hb1,⟨k0,k1,k2⟩,hs1,hd1⟩:=HOUT.out w1 hC;clear hC;go_simp;first|done|exact rfl));done));clear hK K))
        refine wpQuiet_nil ?_;intro wn hC;have HO:=aB (HOUT.out _ hC);clear hC HIN HOUT C;obtain ⟨hb1,⟨k0,k1,k2⟩,hs1,hd1⟩:=HO.out
        go_wp2
        go_ret;exact ⟨aD HR.out.symm,HO.out.1⟩
      · have HR:Hid (dZ none L=dZ (cU (L.take (k+1))) (L.drop (k+1))):=by unfold Hid;rw [HST.out];rfl
        clear HST
        go_wp2_with fail
        refine cE HK (by kernel_rfl) (by kernel_rfl) (by first|exact HO.out|exact HK.out.drew HO.out) ?_;intro C HIN HOUT;clear HO
        repeat
         (with_reducible refine wpQuiet_step (fun K hK=> ?_)
          go_simp
          first
           |(refine hK _ ?_;clear hK K)
           |(apply Exists.intro;refine ⟨fun w1 hC=> ?_,hK _ ?_⟩;(focus ((first|(go_at_call 239;with_reducible exact bJ HIN HOUT HK HF.out w1 hC)|(go_at_call 240;with_reducible exact bJ HIN HOUT HK HG.out w1 hC)|(exact rfl)|(obtain ⟨hb1,⟨k0,k1,k2⟩,hs1,hd1⟩:=HOUT.out w1 hC;clear hC;go_simp;first|done|exact rfl));done));clear hK K))
        refine wpQuiet_nil ?_;intro wn hC;have HO:=aB (HOUT.out _ hC);clear hC HIN HOUT C;obtain ⟨hb1,⟨k0,k1,k2⟩,hs1,hd1⟩:=HO.out
        go_wp2
        exact ⟨⟨k+1,by omega,by go_num,HO.out.1,HR.out⟩,by simp [intOf];omega⟩
  · have hke:k=L.length:=by omega
    subst hke;have HR:Hid (bV L=true):=by unfold Hid;rw [HT.out,HALL.out];simp [dZ]
    clear hb
    go_wp2
    go_ret;exact ⟨aD HR.out.symm,HB.out⟩
theorem BW (ad:Option Addr) (n cap:Nat) (h:16<n) (w:World):
 Calls Tryz.prog 197 #[.slice ad n cap] w fun e w'=>e= .returned (.bool false)∧Below w.heap.size w w':=by
 have hn:(16:Int)<(n:Int):=by omega
 go_enter Tryz.func197,Tryz.ntmps197
 go_wp2
 go_ret;exact ⟨rfl,Below.refl _ _⟩
theorem FF (ad:Option Addr) (cap:Nat) (w:World):
 Calls Tryz.prog 197 #[.slice ad 0 cap] w fun e w'=>e= .returned (.bool true)∧Below w.heap.size w w':=by
 go_enter Tryz.func197,Tryz.ntmps197
 go_wp2_with fail
 go_loop [10] (fun i=>i= .int .i64 0) (fun _=>0)
 case atStart=>rfl
 case round=>
  subst hrel
  go_wp2
  go_ret;exact ⟨rfl,Below.refl _ _⟩
theorem eL {v:Value} {L:List Dp} {w:World} (h:DepsAt w v L):
 Calls Tryz.prog 197 #[v] w fun e w'=>e= .returned (.bool (bV L))∧Below w.heap.size w w':=by
 have h':=h;obtain ⟨ad,cap,rfl,hc,hs⟩:=h'
 by_cases h16:L.length≤16
 · rcases hs with rfl|⟨g,o,rfl,hg,hs⟩
   · exact FF _ _ w
   · exact BV L h16 g o cap w h hs
 · have:bV L=false:=by unfold bV;simp [h16]
   rw [this];exact BW _ _ _ (by omega) w
end Go.Proofs.YtmnhnofnlcbliaaGreatDoor
namespace Go.Proofs.YtmnhnofnlcbliaaGreatDoor
open Go.RowKit Go.Maps Go.WideMaps Go.WideElems
set_option maxRecDepth 100000
def tK (s:ByteArray):Lit:= .string s.data.toList
theorem WP {s t:ByteArray} (h:tK s=tK t):s=t:=by
 unfold tK at h;injection h with h
 exact bC (by rw [ByteArray.toList_eq,ByteArray.toList_eq,h])
theorem KZ (s:ByteArray):WideAt.IsKeyLit (tK s):=by unfold tK WideAt.IsKeyLit;trivial
theorem vF:Keyed Tryz.prog 9:=string_keyed Tryz.underlying9
theorem Eh {s:ByteArray} (hs:s.size≤maxLen):keyOf Tryz.prog 9 (.string s)=some (tK s):=keyOf_string_mk Tryz.underlying9 hs
theorem BX (w:World):(zeroValue 3).run Tryz.prog w= .ok (.int .i64 0) w:=by kernel_rfl
def CntD (D:DataW Unit) (done:List ByteArray):Prop:=IsMap D∧∀ s:ByteArray,(s ∈ done→D.atKey (tK s) (.lit (.int .i64 0))= .lit (.int .i64 1))∧(s ∉ done→D.atKey (tK s) (.lit (.int .i64 0))= .lit (.int .i64 0))
theorem CntD.nil:CntD (.map []) []:=⟨⟨[],rfl⟩,fun _=>⟨fun h=>(by cases h),fun _=>rfl⟩⟩
theorem SK {D:DataW Unit} (h:IsMap D) (k:Lit) (d:DataW Unit):IsMap (D.put k d):=by
 obtain ⟨es,rfl⟩:=h;exact ⟨_,rfl⟩
theorem CntD.put {D:DataW Unit} {done:List ByteArray} (h:CntD D done) {s:ByteArray}:CntD (D.put (tK s) (.lit (.int .i64 1))) (done++[s]):=by
 refine ⟨SK h.1 _ _,fun t=> ?_⟩
 by_cases e:t=s
 · subst e
   rw [atKey_put_same h.1 (KZ t)];exact ⟨fun _=>rfl,fun hn=>absurd (by simp) hn⟩
 · rw [atKey_put_other fun k=>e (WP k)]
   exact ⟨fun hm=>(h.2 t).1 (by simpa [e] using hm),fun hn=>(h.2 t).2 (by simpa [e] using hn)⟩
def BZ (w:World) (g o:Nat) (Ls:List (List Dp)):Prop:=g<w.heap.size∧∀ k (h:k<Ls.length),∃ u,w.cell? ⟨g,o+k,none⟩=some u∧DepsAt w u Ls[k]
def kB (Ls:List (List Dp)):List ByteArray:=Ls.flatten.map Dp.nm
noncomputable def jD (Ls:List (List Dp)):Bool:= @decide ((kB Ls).Nodup) (Classical.propDecidable _)
theorem As {Ls:List (List Dp)} {done rest:List ByteArray} {s:ByteArray} (h:kB Ls=done++s::rest) (hs:s ∈ done):jD Ls=false:=by
 unfold jD;refine @decide_eq_false _ (Classical.propDecidable _) fun hn=> ?_
 rw [h,List.nodup_append] at hn;exact hn.2.2 s hs s List.mem_cons_self rfl
theorem WQ {Ls:List (List Dp)} (h:(kB Ls).Nodup):jD Ls=true:=by unfold jD;exact @decide_eq_true _ (Classical.propDecidable _) h
theorem LB {l:List ByteArray} {s:ByteArray} (h:l.Nodup) (hs:s ∉ l):(l++[s]).Nodup:=by
 rw [List.nodup_append];refine ⟨h,by simp,?_⟩;intro a ha b hb e;rw [List.mem_singleton] at hb;subst hb e;exact hs ha
def mN (L:List Dp):Prop:=L.length≤16∧∀ d ∈ L,d.nm.size≤16
theorem eE {L:List Dp} (h:bV L=true):mN L:=by
 unfold bV at h;rw [Bool.and_eq_true,decide_eq_true_eq] at h;refine ⟨h.1,?_⟩
 have:∀ (M:List Dp) (q:Option ByteArray),dZ q M=true→∀ d ∈ M,d.nm.size≤16:=by
  intro M
  induction M with
  |nil=>intro q _ d hd;cases hd
  |cons e M ih=>
   intro q hq d hd;rw [dZ,Bool.and_eq_true,Bool.and_eq_true] at hq
   rcases List.mem_cons.1 hd with rfl|hd
   · have:=hq.1.1
     unfold dD at this;rw [Bool.and_eq_true] at this
     have:=this.1
     unfold Sc.aK at this;rw [Bool.and_eq_true,decide_eq_true_eq,aI] at this;exact this.2
   · exact ih _ hq.2 d hd
 exact this L none h.2
def KO (w:World) (M n:Nat) (D:DataW Unit) (w1:World):Prop:=Below w.heap.size w w1∧w1.ownsMap Tryz.prog 9 (plainElem Tryz.prog 3) M n D
theorem KO.alloc {w:World} {M n:Nat} {D:DataW Unit} {w1:World} (h:KO w M n D w1) (o:Obj):KO w M n D (w1.alloc o):=⟨aA h.1 (aC _ _),h.2.alloc o⟩
def Gk (w:World) (Ls:List (List Dp)) (L T:List Dp) (K:Nat) (j:Value) (wq:World):Prop:=∃ (m n:Nat) (D:DataW Unit) (done:List ByteArray),m≤L.length∧j= .int .i64 m∧n≤16*K+m∧KO w w.heap.size n D wq∧CntD D done∧done.Nodup∧kB Ls=done++(L.drop m++T).map Dp.nm
set_option maxHeartbeats 6400000 in
theorem FG {Ls:List (List Dp)} {g o cap:Nat} {w:World} (h:BZ w g o Ls) (hs:∀ L ∈ Ls,mN L) (hln:Ls.length≤16):
 Calls Tryz.prog 198 #[.slice (some ⟨g,o,none⟩) Ls.length cap] w fun e w'=>e= .returned (.bool (jD Ls))∧Below w.heap.size w w':=by
 have HP:Hid (∀ k (h:k<Ls.length),∃ u,∀ w1,Below w.heap.size w w1→w1.cell? ⟨g,o+k,none⟩=some u∧DepsAt w1 u Ls[k]):=fun k hk=>(h.2 k hk).imp fun u hu w1 hb=>⟨(hb.cell (p:=⟨g,o+k,none⟩) h.1).trans hu.1,hu.2.below hb⟩
 have HS:=aB hs;clear h hs;have hmm:= @run_makeMap Tryz.prog;have HM0:Hid (KO w w.heap.size 0 (.map []) (w.alloc (.map #[] 0))):=⟨aC _ _,World.ownsMap_made (H:=Unit) w Tryz.prog 9 (plainElem Tryz.prog 3)⟩
 go_enter Tryz.func198,Tryz.ntmps198
 go_wp2_with fail
 go_loopw [11] (fun i wr=>∃ (k n:Nat) (D:DataW Unit) (done:List ByteArray),k≤Ls.length∧i= .int .i64 k∧n≤16*k∧KO w w.heap.size n D wr∧CntD D done∧done.Nodup∧kB Ls=done++(Ls.drop k).flatten.map Dp.nm) (fun i _=>Ls.length - (intOf i).toNat)
 case atStart=>exact ⟨0,0,.map [],[],Nat.zero_le _,rfl,Nat.le_refl _,HM0.out,CntD.nil,List.nodup_nil,rfl⟩
 case round=>
  obtain ⟨k,n,D,done,hk,rfl,hn,hko,hcn,hnd,hnm⟩:=hrel
  by_cases hkl:k<Ls.length
  · obtain ⟨u,HU⟩:=HP.out k hkl
    obtain ⟨cu,hdu⟩:=HU wr hko.1;obtain ⟨AA,CC,rfl,hzc⟩:=hdu.len;have HU:=aB HU;clear hdu;have HSL:=aB (HS.out _ (List.getElem_mem hkl));have HKO0:=aB hko;have HCN0:=aB hcn;have HND0:=aB hnd
    have HNM0:Hid (kB Ls=done++(Ls[k]++(Ls.drop (k+1)).flatten).map Dp.nm):=by
     unfold Hid;rw [hnm,List.drop_eq_getElem_cons hkl,List.flatten_cons]
    have l1:=HSL.out.1;clear hko hcn hnd hnm;generalize Ls[k]=L at*;generalize hT:(Ls.drop (k+1)).flatten=T at*;have HT:=aB hT;clear hT
    go_wp2_with fail
    go_loopw [17] (fun j wq=>Gk w Ls L T k j wq) (fun j _=>L.length - (intOf j).toNat)
    case atStart=>exact ⟨0,n,D,done,Nat.zero_le _,rfl,by omega,HKO0.out,HCN0.out,HND0.out,HNM0.out⟩
    case round=>
     clear HKO0 HCN0 HND0 HNM0 cu;obtain ⟨m,n,D,done,hm,rfl,hn,hko,hcn,hnd,hnm⟩:=hrel
     by_cases hlt:m<L.length
     · obtain ⟨ad,cap,e,_,hcs⟩:=(HU.out wr hko.1).2
       cases e
       obtain ⟨g,o,rfl,hg,hcs⟩:∃ g o,AA=some ⟨g,o,none⟩∧g<wr.heap.size∧∀ i (h:i<L.length),∃ u,DpIn wr g (o+i*2) L[i] u:=by
        rcases hcs with h|h
        · rw [h] at hlt;simp at hlt
        · exact h
       obtain ⟨u,p0,p1,⟨⟨hu,_⟩,_⟩,p3⟩:=hcs m hlt;obtain ⟨au,cu,rfl⟩:=hu.sl;have hnz:L[m].nm.size≤16:=HSL.out.2 _ (List.getElem_mem hlt)
       have HNM1:Hid (kB Ls=done++L[m].nm::(L.drop (m+1)++T).map Dp.nm):=by
        unfold Hid;rw [hnm,List.drop_eq_getElem_cons hlt];rfl
       clear hcs hu hnm;generalize L[m].rg.length=lu at*;generalize L[m].nm=s at*;have hkey:keyOf Tryz.prog 9 (.string s)=some (tK s):=Eh (by unfold maxLen;omega);have HKA:Hid (KO w w.heap.size n D (wr.alloc (.cells #[.string s,.slice au lu cu] 170))):=hko.alloc _;obtain ⟨c,hrun,hat,_⟩:=HKA.out.2.lookup_int vF Tryz.underlying271 Tryz.underlying3 (BX _) hkey;have hBX:Hid (BxD (wr.alloc (.cells #[.string s,.slice au lu cu] 170)) wr.heap.size s (.slice au lu cu)):=BxD.new rfl _ _;have hMw:w.heap.size<wr.heap.size:=hko.2.lt;have hBw:=hko.1.size
       by_cases hin:s ∈ done
       · rw [(hcn.2 s).1 hin] at hat
         obtain rfl:c=1:=by injection hat with h1;injection h1 with _ h2;exact h2.symm
         have HR:=aB (As HNM1.out hin);have HMP:=aB hcn.1;clear hko hcn hnd HNM1
         go_wp2_with (at_mapUpdate;refine wpList_mapUpdate_own _ rfl _ _ _ 271 rfl 9 3 vF Tryz.underlying271 _ w.heap.size n D rfl HKA.out.2 (by unfold maxLen;omega) _ _ _ rfl rfl hkey _ [] (plainElem_int (H:=Unit) Tryz.underlying3 (show (Lit.int .i64 2).wf=true by decide)) ?_;intro w5 hown5 hg5;obtain ⟨c5,hrun5,hat5,_⟩:=hown5.lookup_int vF Tryz.underlying271 Tryz.underlying3 (BX _) hkey;rw [atKey_put_same HMP.out (KZ s)] at hat5;obtain rfl:c5=2:=(by injection hat5 with h1;injection h1 with _ h2;exact h2.symm);have b0:w5.cell? ⟨wr.heap.size,0,none⟩=some (.string s):=(hg5.cell_far ⟨wr.heap.size,0,none⟩ (by simp) (by simp;omega)).trans hBX.out.1;have HB5:Hid (Below w.heap.size w w5):=HKA.out.1.grown hg5 HKA.out.1.size (fun j hj=>by cases hj;omega);clear hat5)
         go_ret;exact ⟨aD HR.out.symm,HB5.out⟩
       · rw [(hcn.2 s).2 hin] at hat
         obtain rfl:c=0:=by injection hat with h1;injection h1 with _ h2;exact h2.symm
         have HCN2:Hid (CntD (D.put (tK s) (.lit (.int .i64 1))) (done++[s])):=hcn.put;have HND2:=aB (LB hnd hin);have HNM2:Hid (kB Ls=(done++[s])++(L.drop (m+1)++T).map Dp.nm):=by unfold Hid;rw [HNM1.out];simp
         have HMP:=aB hcn.1;clear hko hcn hnd HNM1
         go_wp2_with (at_mapUpdate;refine wpList_mapUpdate_own _ rfl _ _ _ 271 rfl 9 3 vF Tryz.underlying271 _ w.heap.size n D rfl HKA.out.2 (by unfold maxLen;omega) _ _ _ rfl rfl hkey _ [] (plainElem_int (H:=Unit) Tryz.underlying3 (show (Lit.int .i64 1).wf=true by decide)) ?_;intro w5 hown5 hg5;obtain ⟨c5,hrun5,hat5,_⟩:=hown5.lookup_int vF Tryz.underlying271 Tryz.underlying3 (BX _) hkey;rw [atKey_put_same HMP.out (KZ s)] at hat5;obtain rfl:c5=1:=(by injection hat5 with h1;injection h1 with _ h2;exact h2.symm);have b0:w5.cell? ⟨wr.heap.size,0,none⟩=some (.string s):=(hg5.cell_far ⟨wr.heap.size,0,none⟩ (by simp) (by simp;omega)).trans hBX.out.1;have HB5:Hid (KO w w.heap.size (n+1) (D.put (tK s) (.lit (.int .i64 1))) w5):=⟨HKA.out.1.grown hg5 HKA.out.1.size (fun j hj=>by cases hj;omega),hown5⟩;clear hat5)
         exact ⟨⟨m+1,n+1,_,_,by omega,by go_num,by omega,HB5.out,HCN2.out,HND2.out,HNM2.out⟩,by simp [intOf];omega⟩
     · have HNM2:Hid (kB Ls=done++T.map Dp.nm):=by unfold Hid;rw [hnm,List.drop_of_length_le (by omega)];rfl
       have HKO:=aB hko;have HCN:=aB hcn;have HND:=aB hnd;clear hko hcn hnd hnm
       go_wp2
       exact ⟨⟨k+1,n,D,done,by omega,by go_num,by omega,HKO.out,HCN.out,HND.out,by rw [HT.out];exact HNM2.out⟩,by simp [intOf];omega⟩
  · have HND:Hid (jD Ls=true):=WQ (by rw [hnm,List.drop_of_length_le (by omega)];simpa using hnd)
    have HKO:=aB hko;clear hko hcn hnd hnm
    go_wp2
    go_ret;exact ⟨aD HND.out.symm,HKO.out.1⟩
end Go.Proofs.YtmnhnofnlcbliaaGreatDoor
