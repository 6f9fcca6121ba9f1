/- ScNm3, Tw2, Tw3, Tw4, Pk3: their declarations that are needed, laid in one text, remarks and blanks left out. -/
import Derived.Deep.DeepAppendWide
import Derived.Lib.LazyBuf
import Derived.Test.YtlmpiohbmlddiaaGreatDoorMg05
namespace Go.Proofs.YtlmpiohbmlddiaaGreatDoor.Sc
open Go.RowKit
set_option maxRecDepth 100000
theorem uM (b:UInt8):ltB b=true↔97≤b.toNat∧b.toNat≤122:=by simp [ltB]
theorem QE (b:UInt8):dgB b=true↔48≤b.toNat∧b.toNat≤57:=by simp [dgB]
theorem uN (b:UInt8):nmB b=true↔(97≤b.toNat∧b.toNat≤122)∨(48≤b.toNat∧b.toNat≤57)∨b.toNat=45:=by
 unfold nmB;rw [Bool.or_eq_true,Bool.or_eq_true,uM,QE,decide_eq_true_eq,or_assoc]
set_option maxHeartbeats 6400000 in
theorem eJ (s:ByteArray) (hs:s.size≤9223372036854775807) (w:World):Calls Tryz.prog 82 #[.string s] w fun e w'=>e= .returned (.bool (aH s.data.toList))∧w'=w:=by
 go_enter Tryz.func82,Tryz.ntmps82
 go_wp2
 go_loop [3] (fun i=>∃ k:Nat,k≤s.size∧i= .int .i64 k∧(s.data.toList.take k).all nmB=true∧(k=0∨pW s.data.toList=true)) (fun i=>s.size - (intOf i).toNat)
 case atStart=>exact ⟨0,Nat.zero_le _,rfl,rfl,Or.inl rfl⟩
 case round=>
  obtain ⟨k,hk,rfl,hal,hhd⟩:=hrel;have HA:=aA hal;have HH:=aA hhd;clear hal hhd
  by_cases hlt:k<s.size
  · by_cases h1:97≤s[k].toNat∧s[k].toNat≤122
    · have HA2:=aA (iL hlt HA.out ((uN _).2 (Or.inl h1)))
      have HH2:Hid (k+1=0∨pW s.data.toList=true):=by
       rcases HH.out with rfl|h
       · exact Or.inr (by rw [uJ hlt];exact (uM _).2 h1)
       · exact Or.inr h
      obtain ⟨a1,a2⟩:=h1;have b2:decide ((s[k].toNat:Int)≤122)=true:=decide_eq_true (by omega);have b4:decide ((s[k].toNat:Int)≤57)=false:=decide_eq_false (by omega)
      go_wp2
      exact ⟨⟨k+1,by omega,by go_num,HA2.out,HH2.out⟩,by simp [intOf];omega⟩
    · by_cases hz:k=0
      · have HR:Hid (aH s.data.toList=false):=by
         unfold Hid aH;subst hz;rw [uJ hlt]
         have:ltB s[0]=false:=by rw [Bool.eq_false_iff];intro h;exact h1 ((uM _).1 h)
         rw [this];rfl
        have ez:((k:Int)==0)=true:=by rw [hz];rfl
        by_cases h2:97≤s[k].toNat
        · have h3:122<s[k].toNat:=by omega
          have b2:decide ((s[k].toNat:Int)≤122)=false:=decide_eq_false (by omega);have b4:decide ((s[k].toNat:Int)≤57)=false:=decide_eq_false (by omega);clear h1 hz
          go_wp2
          go_ret;exact ⟨aC HR.out.symm,rfl⟩
        · clear h1 hz
          by_cases d1:48≤s[k].toNat
          · by_cases d2:s[k].toNat≤57
            · have b4:decide ((s[k].toNat:Int)≤57)=true:=decide_eq_true (by omega)
              go_wp2
              go_ret;exact ⟨aC HR.out.symm,rfl⟩
            · have b4:decide ((s[k].toNat:Int)≤57)=false:=decide_eq_false (by omega)
              go_wp2
              go_ret;exact ⟨aC HR.out.symm,rfl⟩
          · go_wp2
            all_goals
             go_ret;exact ⟨aC HR.out.symm,rfl⟩
      · have ez:((k:Int)==0)=false:=by rw [beq_eq_false_iff_ne];omega
        have HH2:Hid (k+1=0∨pW s.data.toList=true):=Or.inr (HH.out.resolve_left hz)
        by_cases h2:(48≤s[k].toNat∧s[k].toNat≤57)∨s[k].toNat=45
        · have HA2:=aA (iL hlt HA.out ((uN _).2 (Or.inr h2)))
          by_cases hm:s[k].toNat=45
          · have em:((s[k].toNat:Int)==45)=true:=by rw [beq_iff_eq];omega
            have c1:¬ 97≤s[k].toNat:=by omega
            have c2:¬ 48≤s[k].toNat:=by omega
            clear h1 h2 hz hm
            go_wp2
            exact ⟨⟨k+1,by omega,by go_num,HA2.out,HH2.out⟩,by simp [intOf];omega⟩
          · obtain ⟨d1,d2⟩:=h2.resolve_right hm
            have c1:¬ 97≤s[k].toNat:=by omega
            have b4:decide ((s[k].toNat:Int)≤57)=true:=decide_eq_true (by omega);clear h1 h2 hz hm
            go_wp2
            exact ⟨⟨k+1,by omega,by go_num,HA2.out,HH2.out⟩,by simp [intOf];omega⟩
        · have hn:nmB s[k]=false:=by rw [Bool.eq_false_iff];intro h;rcases (uN _).1 h with h|h;exact h1 h;exact h2 h
          have HR:Hid (aH s.data.toList=false):=by unfold Hid aH;rw [uK hlt hn];simp
          have em:((s[k].toNat:Int)==45)=false:=by rw [beq_eq_false_iff_ne];omega
          by_cases c1:97≤s[k].toNat
          · have c2:122<s[k].toNat:=by omega
            have b2:decide ((s[k].toNat:Int)≤122)=false:=decide_eq_false (by omega);have b4:decide ((s[k].toNat:Int)≤57)=false:=decide_eq_false (by omega);clear h1 h2 hz hn
            go_wp2
            go_ret;exact ⟨aC HR.out.symm,rfl⟩
          · by_cases d1:48≤s[k].toNat
            · have d2:57<s[k].toNat:=by omega
              have b4:decide ((s[k].toNat:Int)≤57)=false:=decide_eq_false (by omega);clear h1 h2 hz hn
              go_wp2
              go_ret;exact ⟨aC HR.out.symm,rfl⟩
            · clear h1 h2 hz hn
              go_wp2
              go_ret;exact ⟨aC HR.out.symm,rfl⟩
  · have hke:k=s.size:=by omega
    subst hke;cases he:s.toList.isEmpty
    · have h0:=wU he
      have hh:=HH.out.resolve_left (by omega)
      by_cases h16:s.size≤16
      · have HR:Hid (aH s.data.toList=true):=by unfold Hid aH;rw [hh,uL HA.out,aK,decide_eq_true h16];rfl
        clear hh
        go_wp2
        go_ret;exact ⟨aC ((decide_eq_true (by omega)).trans HR.out.symm),rfl⟩
      · have HR:Hid (aH s.data.toList=false):=by unfold Hid aH;rw [aK,decide_eq_false h16];simp
        clear hh
        go_wp2
        go_ret;exact ⟨aC ((decide_eq_false (by omega)).trans HR.out.symm),rfl⟩
    · have HR:Hid (aH s.data.toList=false):=oD (by rw [←mB];exact he)
      go_wp2
      go_ret;exact ⟨aC HR.out.symm,rfl⟩
end Go.Proofs.YtlmpiohbmlddiaaGreatDoor.Sc
namespace Go.Proofs.YtlmpiohbmlddiaaGreatDoor
open Go.RowKit
set_option maxRecDepth 100000
noncomputable def bA (L:List Dr) (p:List ByteArray):Int:=match L.findIdx? (fun d=>eqB d.pa p) with
 |some i=>(i:Int)
 |none=> -1
theorem iM {L:List Dr} {p:List ByteArray} {k:Nat} (hk:k<L.length) (h:L[k].pa=p) (hall:∀ j (_:j<k) (h1:j<L.length),L[j].pa≠p):bA L p=k:=by
 have e:L.findIdx? (fun d=>eqB d.pa p)=some k:=by
  rw [List.findIdx?_eq_some_iff_getElem];refine ⟨hk,bC h,fun j hj=> ?_⟩;rw [bX (hall j hj (by omega))]
  simp
 unfold bA;rw [e]
theorem pX {L:List Dr} {p:List ByteArray} (hall:∀ j (h1:j<L.length),L[j].pa≠p):bA L p= -1:=by
 have e:L.findIdx? (fun d=>eqB d.pa p)=none:=by
  rw [List.findIdx?_eq_none_iff];intro d hd;obtain ⟨i,hi,rfl⟩:=List.getElem_of_mem hd;exact bX (hall i hi)
 unfold bA;rw [e]
theorem gR (L:List Dr) (p:List ByteArray):(bA L p= -1∧∀ j (h1:j<L.length),L[j].pa≠p)∨∃ k,∃ hk:k<L.length,bA L p=(k:Int)∧L[k].pa=p∧∀ j (_:j<k) (h1:j<L.length),L[j].pa≠p:=by
 cases e:L.findIdx? (fun d=>eqB d.pa p) with
 |none=>
  rw [List.findIdx?_eq_none_iff] at e
  have hall:∀ j (h1:j<L.length),L[j].pa≠p:=fun j h1 h=>by
   have:=e _ (List.getElem_mem h1)
   rw [bC h] at this;cases this
  exact Or.inl ⟨pX hall,hall⟩
 |some k=>
  rw [List.findIdx?_eq_some_iff_getElem] at e;obtain ⟨hk,h,hall⟩:=e;have h1:L[k].pa=p:=fY.1 h;have h2:∀ j (_:j<k) (h1:j<L.length),L[j].pa≠p:=fun j hj h1 h=>hall j hj (bC h)
  exact Or.inr ⟨k,hk,iM hk h1 h2,h1,h2⟩
theorem wV (L:List Dr) (p:List ByteArray):bA L p<L.length:=by
 rcases gR L p with ⟨h,_⟩|⟨k,hk,h,_⟩<;>rw [h]<;>omega
theorem gS (L:List Dr) (p:List ByteArray): -1≤bA L p:=by
 rcases gR L p with ⟨h,_⟩|⟨k,hk,h,_⟩<;>rw [h]<;>omega
noncomputable def dR (L:List Dr) (p:List ByteArray) (s:ByteArray):Nat→Int
 |0=>bA L (p.take 0++[s])
 |k+1=>if bA L (p.take (k+1)++[s])= -1 then dR L p s k else bA L (p.take (k+1)++[s])
noncomputable def bY (L:List Dr) (f:Int) (s:ByteArray):Int:=if h:0≤f∧f.toNat<L.length∧Sc.aH s.data.toList=true then dR L (L[f.toNat]'h.2.1).pa s (L[f.toNat]'h.2.1).pa.length else -1
theorem wW {L:List Dr} {p:List ByteArray} {s:ByteArray} {k:Nat} (h:bA L (p.take k++[s])≠ -1):dR L p s k=bA L (p.take k++[s]):=by
 cases k with
 |zero=>rfl
 |succ k=>unfold dR;rw [if_neg h]
theorem sW {L:List Dr} {p:List ByteArray} {s:ByteArray} {k:Nat} (h:bA L (p.take (k+1)++[s])= -1):dR L p s (k+1)=dR L p s k:=by
 rw [dR,if_pos h]
theorem wX (L:List Dr) (p:List ByteArray) (s:ByteArray):∀ k,dR L p s k<L.length∧ -1≤dR L p s k
 |0=>⟨wV _ _,gS _ _⟩
 |k+1=>by
  unfold dR
  split
  · exact wX L p s k
  · exact ⟨wV _ _,gS _ _⟩
theorem mC (L:List Dr) (f:Int) (s:ByteArray):bY L f s<L.length∧ -1≤bY L f s:=by
 unfold bY
 split
 · exact wX _ _ _ _
 · omega
def BxT (w:World) (N:Nat) (v:Value):Prop:=w.cell? ⟨N,0,none⟩=some v∧N<w.heap.size
theorem bI (N:Nat) (v:Value):KeepP fun w1=>BxT w1 N v:=fun _ _ h hb=>⟨(hb.cell (p:=⟨N,0,none⟩) h.2).trans h.1,Nat.lt_of_lt_of_le h.2 hb.size⟩
theorem BxT.new (w:World) (v:Value):BxT (w.alloc (.cells #[v] 30)) w.heap.size v:=⟨by simp,by simp⟩
set_option maxHeartbeats 1600000 in
theorem nJ {L:List Dr} {v:Value} {p:List ByteArray} {vp:Value} {w:World} (h:DirsAt w v L) (hz:L.length≤9223372036854775807) (hf:FitD L) (hp:PathAt w vp p):
 Calls Tryz.prog 57 #[.agg #[v],vp] w fun e w'=>e= .returned (.int .i64 (bA L p))∧Below w.heap.size w w':=by
 have HE:Hid (∀ w1,Below w.heap.size w w1→∀ u A,PathAt w1 u A→A.length≤9223372036854775807→Calls Tryz.prog 107 #[u,vp] w1 fun e w'=>e= .returned (.bool (eqB A p))∧Below w1.heap.size w1 w'):=fun w1 hb u A hu hl=>BI hu (hp.below hb) hl
 obtain ⟨ad,cap,rfl,hc,hsl⟩:=h.sl
 have HS:Hid (∀ w1,Below w.heap.size w w1→∀ i (_:i<L.length),∃ g o,ad=some ⟨g,o,none⟩∧∃ u v1 v2 v3,DrIn w1 g (o+i*9) L[i] u v1 v2 v3):=fun w1 hb i hi=>by
  obtain ⟨g,o,e,u,v1,v2,v3,hd⟩:=hsl i hi;exact ⟨g,o,e,u,v1,v2,v3,hd.below hb⟩
 have HF:=aA hf;obtain ⟨pd,pc,rfl⟩:=hp.sl;clear h hp hsl hf
 go_enter Tryz.func57,Tryz.ntmps57
 go_wp2_with fail
 go_loopw [9] (fun i wr=>∃ k:Nat,k≤L.length∧i= .int .i64 k∧(Below w.heap.size w wr∧BxT wr w.heap.size (.slice ad L.length cap))∧∀ j (_:j<k) (h1:j<L.length),L[j].pa≠p) (fun i _=>L.length - (intOf i).toNat)
 case atStart=>exact ⟨0,Nat.zero_le _,rfl,⟨aF _ _,BxT.new _ _⟩,fun j h=>by omega⟩
 case round=>
  obtain ⟨k,hk,rfl,⟨hb,bx0,bx1⟩,hall⟩:=hrel;have HALL:=aA hall;have HB:=aA hb;clear hall
  by_cases hlt:k<L.length
  · obtain ⟨g,o,rfl,u,v1,v2,v3,⟨c0,c1,c2,c3,c4,c5,c6,c7,c8⟩,⟨hpa,hpk⟩,hg⟩:=HS.out wr hb k hlt
    have HC:=aA (HE.out wr hb u _ hpa (HF.out _ (List.getElem_mem hlt)));have HY:Hid (L[k].pa=p→bA L p=k):=fun h=>iM hlt h HALL.out
    have HN:Hid (L[k].pa≠p→∀ j (_:j<k+1) (h1:j<L.length),L[j].pa≠p):=fun h j hj h1=>by
     rcases Nat.lt_or_ge j k with hjk|hjk
     · exact HALL.out j hjk h1
     · obtain rfl:j=k:=by omega
       exact h
    obtain ⟨ua,uc,rfl⟩:=hpa.sl;clear c1 c2 c3 c4 c5 c6 c7 c8 hpk hpa hb;have HBX:Hid (BxT wr w.heap.size (.slice (some ⟨g,o,none⟩) L.length cap)):=⟨bx0,bx1⟩;generalize L[k].pa.length=n at*
    by_cases hq:L[k].pa=p
    · have HR:=aA (HY.out hq)
      rw [bC hq] at HC;clear HY HN HALL hq
      go_wp2_with (go_at_call 107;refine HC.out.mono ?_;rintro x w1 ⟨rfl,ok⟩)
      go_ret;exact ⟨Sc.bN HR.out.symm,aB HB.out ok⟩
    · have HR:=aA (HN.out hq)
      rw [bX hq] at HC;clear HY HN HALL hq
      go_wp2_with (go_at_call 107;refine HC.out.mono ?_;rintro x w1 ⟨rfl,ok⟩)
      exact ⟨⟨k+1,by omega,by go_num,⟨aB HB.out ok,bI _ _ _ _ HBX.out ok⟩,HR.out⟩,by simp [intOf];omega⟩
  · have hke:k=L.length:=by omega
    subst hke;have HR:Hid (bA L p= -1):=pX fun j h1=>HALL.out j h1 h1
    clear hb
    go_wp2
    go_ret;exact ⟨Sc.bN HR.out.symm,HB.out⟩
def pcs (L:List ByteArray):List Value:=L.map .string
theorem jB (L:List ByteArray):(pcs L).length=L.length:=by simp [pcs]
theorem FB (L:List ByteArray):∀ u ∈ pcs L,u.oneCell'=true:=fun u hu=>by
 obtain ⟨s,_,rfl⟩:=List.mem_map.1 hu;rfl
def OwnPa (w:World) (B:Nat) (v:Value) (L:List ByteArray):Prop:=w.ownsRow B 9 1 v L.length (pcs L)
theorem OwnPa.below {w w':World} {B:Nat} {v:Value} {L:List ByteArray} (h:OwnPa w B v L) (hb:Below w.heap.size w w'):OwnPa w' B v L:=by
 refine ⟨h.1,?_⟩
 rcases h.2 with hn|⟨g,cap,cur,rfl,hB,hgg,r⟩
 · exact Or.inl hn
 · exact Or.inr ⟨g,cap,cur,rfl,hB,(hb.block g (Array.getElem?_eq_some_iff.1 hgg).1).trans hgg,r⟩
theorem OwnPa.form {w:World} {B:Nat} {v:Value} {L:List ByteArray} (h:OwnPa w B v L):∃ ad cap,v= .slice ad L.length cap∧L.length≤cap:=by
 rcases h.2 with ⟨rfl,hn⟩|⟨g,cap,cur,rfl,hB,hg,hc,_⟩
 · exact ⟨none,0,by rw [hn],by omega⟩
 · exact ⟨_,cap,rfl,hc⟩
theorem OwnPa.at {w:World} {B:Nat} {v:Value} {L:List ByteArray} (h:OwnPa w B v L):PathAt w v L:=by
 have h0:=h
 rcases h.2 with ⟨rfl,hn⟩|⟨g,cap,cur,rfl,hB,hg,hc,_⟩
 · exact ⟨none,0,by rw [hn],by omega,Or.inl (List.eq_nil_of_length_eq_zero hn)⟩
 · refine ⟨_,cap,rfl,hc,Or.inr ⟨g,0,rfl,fun i hi=>⟨?_,(Array.getElem?_eq_some_iff.1 hg).1⟩⟩⟩
   have:=World.ownsRow.cellAt h0 i (by omega)
   rw [Nat.zero_add,this];simp [pcs,hi]
theorem OwnPa.cut {w:World} {B:Nat} {ad:Option Addr} {n cap:Nat} {L:List ByteArray} (h:OwnPa w B (.slice ad n cap) L) {k:Nat} (hk:k≤n):OwnPa w B (.slice ad k cap) (L.take k):=by
 have hln:n=L.length:=by
  obtain ⟨_,_,e,_⟩:=h.form;injection e
 subst hln;have hkl:(L.take k).length=k:=by rw [List.length_take];omega
 refine ⟨by rw [jB,Nat.mul_one],?_⟩
 rcases h.2 with ⟨e,hn⟩|⟨g,cap',cur,e,hB,hg,hc,hm,hs,ht⟩
 · injection e with e1 e2 e3
   refine Or.inl ⟨?_,by omega⟩;rw [e1,e3,show k=0 by omega]
 · injection e with e1 e2 e3
   refine Or.inr ⟨g,cap',cur,by rw [e1,e3,hkl],hB,hg,by omega,hm,hs,?_⟩;rw [hkl,Nat.mul_one];rw [Nat.mul_one] at ht
   have:cur.toList.take k=(cur.toList.take L.length).take k:=by rw [List.take_take,Nat.min_eq_left hk]
   rw [this,ht];unfold pcs;rw [List.map_take]
theorem sX {w:World} {g o:Nat} {L:List ByteArray} (h:∀ i (h:i<L.length),StIn w g (o+i) L[i]):∀ j u,(pcs L)[j]? =some u→w.cell? ((⟨g,o,none⟩:Addr).add j)=some u:=fun j u hj=>by
 have ad:(⟨g,o,none⟩:Addr).add j=⟨g,o+j,none⟩:=by unfold Addr.add;split<;>simp_all
 rw [ad]
 have hl:j<L.length:=by
  have:=(List.getElem?_eq_some_iff.1 hj).1
  rwa [jB] at this
 rw [(h j hl).1,←hj];simp [pcs,hl]
theorem uO (w:World) (B:Nat) (t ty e:TypeId) (i:TypeInfo) (z:Value) (bytes:Nat) (ht:Tryz.prog.underlying t=some (.slice e)) (hi:Tryz.prog.info? e=some i) (hz:i.zero=some z) (hsize:i.size=1) (hby:i.bytes=bytes) (hzs:z.cells.size=1)
 (v:Value) (n:Nat) (xs:List Value) (hown:w.ownsRow B e 1 v n xs) (a:Addr) (c:Nat) (x:Value) (hx:∀ j u,[x][j]? =some u→w.cell? (a.add j)=some u) (h1:x.oneCell'=true)
 (hb:((n+1)+(n+1) / 4+192)*bytes≤281474976710656) (hn:n+1≤maxLen) (hB:B≤w.heap.size):
 ∃ v' w',(Builtin.append_ #[t,t] ty #[v,.slice (some a) 1 c]).run Tryz.prog w= .ok v' w'∧w'.ownsRow B e 1 v' (n+1) (xs++[x])∧w'.ownsRow B e 1 v n xs∧w.grownBy w' v.ownBlock:=by
 obtain ⟨v',w',hr,h2,h3,_⟩:=run_append_own_wide (P:=Tryz.prog) w B t ty e i z 1 bytes ht hi hz hsize hby hzs (by decide) v n xs hown a 1 c [x] rfl hx (by simpa using h1) hn hb hB;refine ⟨v',w',hr,h2,?_,h3⟩
 rcases hown.2 with ⟨rfl,rfl⟩|⟨g,cap,cur,rfl,hbg,hg,hnc,hcm,hcs,htk⟩
 · exact ⟨hown.1,Or.inl ⟨rfl,rfl⟩⟩
 · by_cases hroom:n+1≤cap
   · have hr2:=run_append_room (P:=Tryz.prog) w t ty e i ht hi g n cap cur hg a 1 c [x] (by rw [hsize];rfl) hx (by simpa using h1) hroom (by rw [hsize,hcs];simp;omega)
     rw [hr] at hr2;obtain ⟨_,rfl⟩:=Result.ok.inj hr2;refine ⟨hown.1,Or.inr ⟨g,cap,_,rfl,hbg,setRow_heap w g cur _ e _ hg,hnc,hcm,?_,?_⟩⟩
     · rw [hsize]
       simp only [List.size_toArray,List.length_append,List.length_take,List.length_drop,Array.length_toList,List.length_singleton];omega
     · rw [hsize]
       rw [Nat.mul_one] at htk ⊢
       have hl:(cur.toList.take n).length=n:=by
        rw [htk]
        have:=hown.1
        omega
       show List.take n (cur.toList.take n++[x]++_)=xs;rw [List.append_assoc,List.take_append_of_le_length (by omega),List.take_of_length_le (by omega),htk]
   · have hr2:=run_append_grow (P:=Tryz.prog) w t ty e i z ht hi hz ⟨g,0,none⟩ n cap xs (by rw [hsize];exact hown.1) (hown.cells (g:=g) rfl) a 1 c [x] (by rw [hsize];rfl) hx (by omega) (by unfold maxLen at hn;omega) (growslice_fits_wide (by omega) (by rw [hby];exact hb))
     rw [hr] at hr2;obtain ⟨_,rfl⟩:=Result.ok.inj hr2;exact hown.drew.alloc _
theorem IJ {B:Nat} {wx:World} {n:Nat} {v:Value} {xs:List Value} {s0:ByteArray} {ops:Array Oper} {o:Oper} {f:Act} {K:Act→World→Prop} {Q:Exit→Act→World→Prop} {E:Prop}
 (hgd:o.guard=none) (s t:Operand) (ho:o.op= .call { callee:= .builtin .append,args:= #[s,t],argTypes:= #[50,50] }) (hs:f.eval s=v)
 (hown:wx.ownsRow B 9 1 v n xs) (hB:B≤wx.heap.size) {M:Nat} (hM:wx.heap.size=M) (hx:f.eval t= .slice (some ⟨M,0,none⟩) 1 1) (hb:((n+1)+(n+1) / 4+192)*16≤281474976710656)
 (h:∀ v1 w1,w1.ownsRow B 9 1 v1 (n+1) (xs++[.string s0])→w1.ownsRow B 9 1 v n xs→(wx.alloc (.cells #[.string s0] 9)).grownBy w1 v.ownBlock→K (f.put o.dst v1) w1):
 if Region.wanted o (yielded ops f.tmps)=true then Oper.wp Tryz.prog o f (wx.alloc (.cells #[.string s0] 9)) K Q else E:=by
 have hw:Region.wanted o (yielded ops f.tmps)=true:=by simp [Region.wanted,hgd]
 rw [if_pos hw];subst hM;obtain ⟨i0,hi,hz0,hz1,hz2⟩:=Sc.bW Sc.kB;obtain ⟨v1,w1,hr,h1,h2,h3⟩:=uO (wx.alloc (.cells #[.string s0] 9)) B 50 o.type 9 i0 _ 16 Tryz.underlying50 hi hz0 hz1 hz2 rfl v n xs (hown.alloc _) ⟨wx.heap.size,0,none⟩ 1 (.string s0) (cell_one_new _ _ _) rfl hb (by unfold maxLen;omega) (by simp;omega);unfold Oper.wp execOp;simp only [ho,resolve,invoke,builtin,Sem.run_bind,Sem.run_pure,Result.andThen_ok,List.map_toArray,List.map_cons,List.map_nil,hs,hx,hr];exact h v1 w1 h1 h2 h3
theorem ME (w:World):(w.alloc (.cells #[] 9)).ownsRow w.heap.size 9 1 (.slice (some ⟨w.heap.size,0,none⟩) 0 0) 0 []:=
 ⟨rfl,Or.inr ⟨w.heap.size,0,#[],rfl,Nat.le_refl _,heap_alloc_new w _,Nat.le_refl _,Nat.zero_le _,rfl,rfl⟩⟩
theorem jO {B:Nat} {w w1:World} {own:Option Nat} (hg:w.grownBy w1 own) (h:∀ g,own=some g→B≤g) (hB:B≤w.heap.size):Below B w w1:=⟨hg.os,hg.tape,hg.output,hg.size,fun k hk=>hg.block k (by omega) (fun e=>by have:=h k e.symm;omega)⟩
theorem iN {w w' w1:World} {row:Option Nat} (hb:Below w.heap.size w w') (hg:w'.grownBy w1 row):w.grownBy w1 row:=
 ⟨hg.os.trans hb.os,hg.tape.trans hb.tape,hg.output.trans hb.output,Nat.le_trans hb.size hg.size,fun k hk hn=>(hg.block k (Nat.lt_of_lt_of_le hk hb.size) hn).trans (hb.block k hk)⟩
theorem VE (w:World) (o:Obj):Below w.heap.size w (w.drew.alloc o):=(Below.refl _ _).drew.alloc (Nat.le_refl _) _
set_option maxHeartbeats 1600000 in
theorem BJ {L:List ByteArray} {v:Value} {w:World} (h:PathAt w v L) (hl:(L.length+L.length / 4+192)*16≤281474976710656):Calls Tryz.prog 56 #[v] w fun e w'=>∃ v',e= .returned v'∧OwnPa w' w.heap.size v' L∧Below w.heap.size w w':=by
 obtain ⟨ad,cap,rfl,hcp,hc⟩:=h;cases ad with
 |none=>
  obtain rfl:L=[]:=by
   rcases hc with e|⟨_,_,q,_⟩
   · exact e
   · cases q
  rw [List.length_nil];have q0:∀ w,(binOp .eql 50 (.slice none 0 cap) (.slice none 0 0)).run Tryz.prog w= .ok (.bool true) w:=fun w=>run_eql_slice_nil w 50 9 none 0 cap Tryz.underlying50
  go_enter Tryz.func56,Tryz.ntmps56
  go_wp2
  go_ret;exact ⟨_,rfl,⟨rfl,Or.inl ⟨rfl,rfl⟩⟩,Below.refl _ _⟩
 |some a=>
  obtain ⟨g,o,sp⟩:=a
  have HNW:Hid (∀ j u,(pcs L)[j]? =some u→(w.alloc (.cells #[] 9)).cell? ((⟨g,o,sp⟩:Addr).add j)=some u):=fun j u hj=>by
   rcases hc with e|⟨g',o',q,hs⟩
   · subst e;simp [pcs] at hj
   · cases q
     exact sX (fun i hi=>(hs i hi).below (aF w (.cells #[] 9))) j u hj
  have HRW:=aA (ME w);have q0:∀ w,(binOp .eql 50 (.slice (some ⟨g,o,sp⟩) L.length cap) (.slice none 0 0)).run Tryz.prog w= .ok (.bool false) w:=fun w=>run_eql_slice_nil w 50 9 (some ⟨g,o,sp⟩) L.length cap Tryz.underlying50
  clear hc;obtain ⟨i0,hi,hz0,hz1,hz2⟩:=Sc.bW Sc.kB
  go_enter Tryz.func56,Tryz.ntmps56
  go_wp2_with (at_builtin;refine wpList_append_own_wide _ rfl (.tmp 5) (.tmp 6) 50 rfl w.heap.size 9 i0 _ 1 16 Tryz.underlying50 hi hz0 hz1 hz2 rfl (by decide) _ 0 [] rfl HRW.out ⟨g,o,sp⟩ L.length cap (pcs L) rfl (by rw [jB];omega) HNW.out (FB L) (by unfold maxLen;omega) (by rw [Nat.zero_add];omega) (by simp) ?_;intro v1 w1 ho hgr _;have HO:Hid (OwnPa w1 w.heap.size v1 L):=(by have e:=ho;rw [Nat.zero_add,List.nil_append] at e;exact e);have HB:Hid (Below w.heap.size w w1):=(aF w (.cells #[] 9)).trans (jO (B:=w.heap.size) hgr (fun g e=>by cases e;exact Nat.le_refl _) (by simp));clear ho hgr)
  go_ret;exact ⟨_,rfl,HO.out,HB.out⟩
def FitP1 (L:List Dr):Prop:=∀ d ∈ L,d.pa.length*16≤140737488355328
theorem FitP1.fit {L:List Dr} (h:FitP1 L):FitD L:=fun d hd=>by have:=h d hd;omega
theorem wY {L:List Dr} {k:Nat} {s:ByteArray} (hk:k<L.length) (hn:Sc.aH s.data.toList=true):bY L (k:Int) s=dR L L[k].pa s L[k].pa.length:=by
 unfold bY;rw [dif_pos ⟨by omega,by simpa using hk,hn⟩];rfl
theorem sY {L:List Dr} {f:Int} {s:ByteArray} (h:¬ (0≤f∧f.toNat<L.length∧Sc.aH s.data.toList=true)):bY L f s= -1:=by
 unfold bY;rw [dif_neg h]
theorem wZ (L:List ByteArray) (s:ByteArray):pcs (L++[s])=pcs L++[.string s]:=by simp [pcs]
set_option maxHeartbeats 3200000 in
theorem IK {L:List Dr} {v:Value} {w:World} (h:DirsAt w v L) (hz:L.length≤9223372036854775807) (hf:FitP1 L) {k:Nat} (hk:k<L.length) (s:ByteArray) (hn:Sc.aH s.data.toList=true):
 Calls Tryz.prog 17 #[.agg #[v],.int .i64 k,.string s] w fun e w'=>e= .returned (.int .i64 (bY L k s))∧Below w.heap.size w w':=by
 have HN:Hid (∀ w1,Calls Tryz.prog 53 #[.string s] w1 fun e w'=>e= .returned (.bool true)∧w'=w1):=fun w1=>by have:=Sc.fI s w1;rw [hn] at this;exact this
 have HV:=aA (wY (L:=L) hk hn);have hfk:=hf _ (List.getElem_mem hk);have HFI:Hid (∀ w1,Below w.heap.size w w1→∀ vp p,PathAt w1 vp p→Calls Tryz.prog 57 #[.agg #[v],vp] w1 fun e w'=>e= .returned (.int .i64 (bA L p))∧Below w1.heap.size w1 w'):=fun w1 hb vp p hp=>nJ (h.below hb) hz hf.fit hp
 obtain ⟨ad,cap,rfl,hc,hsl⟩:=h.sl;obtain ⟨g,o,rfl,u,v1,v2,v3,⟨c0,c1,c2,c3,c4,c5,c6,c7,c8⟩,⟨hpa,hpk⟩,hg⟩:=hsl k hk;have HCL:Hid (∀ w1,Below w.heap.size w w1→Calls Tryz.prog 56 #[u] w1 fun e w'=>∃ v',e= .returned v'∧OwnPa w' w1.heap.size v' L[k].pa∧Below w1.heap.size w1 w'):=fun w1 hb=>BJ (hpa.below hb) (by omega)
 obtain ⟨ua,uc,rfl⟩:=hpa.sl;clear c1 c2 c3 c4 c5 c6 c7 c8 hpk hpa h hsl;generalize L[k].pa=p at*;have HFR:Hid (∀ q,bA L q= -1∨0≤bA L q):=fun q=>by have:=gS L q;omega
 clear hn hf;have c0':(w.alloc (.cells #[.slice (some ⟨g,o,none⟩) L.length cap] 30)).cell? ⟨g,o+k*9,none⟩=some (.slice ua p.length uc):=((aF w (.cells #[.slice (some ⟨g,o,none⟩) L.length cap] 30)).cell (p:=⟨g,o+k*9,none⟩) hg).trans c0
 go_enter Tryz.func17,Tryz.ntmps17
 go_wp2_with (first
  |(go_at_call 53;refine (HN.out _).mono ?_;rintro e w1 ⟨rfl,rfl⟩)
  |(go_at_call 56;refine (HCL.out _ (aF _ _)).mono ?_;rintro e w2 ⟨vc,rfl,hoc,hb2⟩;have HO2:Hid (OwnPa w2 (w.heap.size+1) vc p):=(by have e:=hoc;rw [show (w.alloc (.cells #[.slice (some ⟨g,o,none⟩) L.length cap] 30)).heap.size=w.heap.size+1 by simp] at e;exact e);have HB2:Hid (Below w.heap.size w w2∧BxT w2 w.heap.size (.slice (some ⟨g,o,none⟩) L.length cap)):=⟨aB (aF _ _) hb2,bI _ _ _ _ (BxT.new _ _) hb2⟩;clear hoc hb2))
 clear c0' c0;have HPT:Hid (p.take p.length=p):=List.take_length
 go_loopw [7] (fun vl wr=>∃ j:Nat,j≤p.length∧(∃ a c,vl= .slice a j c∧j≤c)∧OwnPa wr (w.heap.size+1) vl (p.take j)∧(Below w.heap.size w wr∧BxT wr w.heap.size (.slice (some ⟨g,o,none⟩) L.length cap))∧dR L p s p.length=dR L p s j) (fun vl _=>match vl with| .slice _ n _=>n|_=>0)
 case atStart=>
  obtain ⟨a,c,e,hac⟩:=HO2.out.form;exact ⟨p.length,Nat.le_refl _,⟨a,c,e,hac⟩,by rw [HPT.out];exact HO2.out,HB2.out,rfl⟩
 case round=>
  obtain ⟨j,hj,⟨a,c,rfl,hac⟩,hown,⟨hb,bx0,bx1⟩,hst⟩:=hrel;have hpl:(p.take j).length=j:=by rw [List.length_take];omega
  have HOW:Hid (wr.ownsRow (w.heap.size+1) 9 1 (.slice a j c) j (pcs (p.take j))):=(by have e:=hown;unfold OwnPa at e;rw [hpl] at e;exact e);have HB:=aA hb;have HST:=aA hst;have hBr:w.heap.size+1≤wr.heap.size:=bx1;have HBX:Hid (BxT wr w.heap.size (.slice (some ⟨g,o,none⟩) L.length cap)):=⟨bx0,bx1⟩;have HNE:Hid (some w.heap.size≠(Value.slice a j c).ownBlock):=fun e=>by have:=(World.ownsRow.lt HOW.out _ e.symm).1;omega
  have HAF:Hid (∀ v5 w5,w5.ownsRow (w.heap.size+1) 9 1 v5 (j+1) (pcs (p.take j)++[.string s])→w5.ownsRow (w.heap.size+1) 9 1 (.slice a j c) j (pcs (p.take j))→wr.grownBy w5 (Value.slice a j c).ownBlock→(PathAt w5 v5 (p.take j++[s])∧OwnPa w5 (w.heap.size+1) (.slice a j c) (p.take j))∧Below w.heap.size w w5∧BxT w5 w.heap.size (.slice (some ⟨g,o,none⟩) L.length cap)):=fun v5 w5 h1 h2 h3=>by
   refine ⟨⟨OwnPa.at (B:=w.heap.size+1) ?_,?_⟩,HB.out.grown h3 HB.out.size (fun q hq=>by have:=(World.ownsRow.lt HOW.out q hq).1;omega),h3.cell HBX.out.1 HNE.out,Nat.lt_of_lt_of_le HBX.out.2 h3.size⟩
   · unfold OwnPa
     rw [wZ,List.length_append,hpl];exact h1
   · unfold OwnPa
     rw [hpl];exact h2
  have hwide:((j+1)+(j+1) / 4+192)*16≤281474976710656:=by omega
  clear hown hb hst;have HFC:Hid (∀ w5 v5,Below w.heap.size w w5→PathAt w5 v5 (p.take j++[s])→Calls Tryz.prog 57 #[.agg #[.slice (some ⟨g,o,none⟩) L.length cap],v5] w5 fun e w'=>e= .returned (.int .i64 (bA L (p.take j++[s])))∧Below w5.heap.size w5 w'):=fun w5 v5 hb hp=>HFI.out w5 hb v5 _ hp
  have HHIT:Hid (0≤bA L (p.take j++[s])→dR L p s p.length=bA L (p.take j++[s])):=fun h=>by rw [HST.out];exact wW (by omega)
  have HEND:Hid (j=0→dR L p s p.length=bA L (p.take j++[s])):=fun h=>by rw [HST.out];subst h;rfl
  have HGO:Hid (∀ i,j=i+1→bA L (p.take j++[s])= -1→dR L p s p.length=dR L p s i):=fun i h h2=>by rw [HST.out];subst h;exact sW h2
  have HOC:Hid (∀ w6,OwnPa w6 (w.heap.size+1) (.slice a j c) (p.take j)→∀ i,i≤j→OwnPa w6 (w.heap.size+1) (.slice a i c) (p.take i)):=fun w6 ho i hi=>by
   have:=ho.cut hi
   rw [List.take_take,Nat.min_eq_left hi] at this;exact this
  have HFJ:=aA (HFR.out (p.take j++[s]));generalize bA L (p.take j++[s])=f at*;clear hpl
  go_wp2_with fail
  go_region_held3 (fun w'=>w'.cell? ⟨w.heap.size,0,none⟩=some (.slice (some ⟨g,o,none⟩) L.length cap)) (go_keep) (first
   |(refine IJ (B:=w.heap.size+1) (M:=wr.heap.size) (wx:=wr.drew) (v:= .slice a j c) (s0:=s) rfl (.tmp 36) (.tmp 38) rfl rfl HOW.out.drew hBr rfl rfl hwide ?_;intro v5 w5 h1 h2 h3;have HP5:=aA (HAF.out v5 w5 h1 h2 (iN (VE _ _) h3));have b5:=HP5.out.2.2.1;clear h1 h2 h3)
   |(have _h:=HP5;go_at_call 57;refine (HFC.out _ _ HP5.out.2.1 HP5.out.1.1).mono ?_;rintro e w6 ⟨rfl,ok⟩;have HP6:Hid (OwnPa w6 (w.heap.size+1) (.slice a j c) (p.take j)∧Below w.heap.size w w6∧BxT w6 w.heap.size (.slice (some ⟨g,o,none⟩) L.length cap)):=⟨HP5.out.1.2.below ok,aB HP5.out.2.1 ok,bI _ _ _ _ HP5.out.2.2 ok⟩;have b6:=HP6.out.2.2.1;clear ok))
  all_goals clear HFC HAF HNE HOW
  all_goals rcases HFJ.out with hm|hge
  all_goals first
   |(have HR:=aA (HHIT.out hge)
     go_wp2
     go_ret;exact ⟨bN (by rw [HV.out,HR.out]),HP6.out.2.1⟩)
   |(rcases Nat.eq_zero_or_pos j with h0|h0
     · have HR:=aA (HEND.out h0)
       subst hm;subst h0
       go_wp2
       go_ret;exact ⟨bN (by rw [HV.out,HR.out]),HP6.out.2.1⟩
     · obtain ⟨i,rfl⟩:∃ i,j=i+1:=⟨j - 1,by omega⟩
       have HR:=aA (HGO.out i rfl hm);have HO7:=aA (HOC.out _ HP6.out.1 i (by omega));have hic:i≤c:=by omega
       subst hm;clear HGO HEND HHIT HFJ
       go_wp2
       exact ⟨⟨i,by omega,⟨a,c,rfl,hic⟩,HO7.out,HP6.out.2,HR.out⟩,by simp⟩)
theorem QF {L:List Dr} {v:Value} {w:World} (h:DirsAt w v L) (f:Int) (s:ByteArray) (hno:¬ (0≤f∧f.toNat<L.length∧Sc.aH s.data.toList=true)):
 Calls Tryz.prog 17 #[.agg #[v],.int .i64 f,.string s] w fun e w'=>e= .returned (.int .i64 (bY L f s))∧Below w.heap.size w w':=by
 have HV:=aA (sY hno);have HN:Hid (∀ w1,Calls Tryz.prog 53 #[.string s] w1 fun e w'=>e= .returned (.bool (Sc.aH s.data.toList))∧w'=w1):=Sc.fI s;obtain ⟨ad,cap,rfl,hc,hsl⟩:=h.sl;clear h hsl
 by_cases h1:f<0
 · clear hno
   go_enter Tryz.func17,Tryz.ntmps17
   go_wp2
   go_ret;exact ⟨bN HV.out.symm,aF _ _⟩
 · by_cases h2:(L.length:Int)≤f
   · clear hno
     go_enter Tryz.func17,Tryz.ntmps17
     go_wp2
     go_ret;exact ⟨bN HV.out.symm,aF _ _⟩
   · have hnn:Sc.aH s.data.toList=false:=by
      cases hx:Sc.aH s.data.toList with
      |false=>rfl
      |true=>exact absurd ⟨by omega,by omega,hx⟩ hno
     rw [hnn] at HN;clear hno hnn;have h3:f<(L.length:Int):=by omega
     have h4:0≤f:=by omega
     go_enter Tryz.func17,Tryz.ntmps17
     go_wp2_with (go_at_call 53;refine (HN.out _).mono ?_;rintro e w1 ⟨rfl,rfl⟩)
     go_ret;exact ⟨bN HV.out.symm,aF _ _⟩
theorem MF {L:List Dr} {v:Value} {w:World} (h:DirsAt w v L) (hz:L.length≤9223372036854775807) (hf:FitP1 L) (f:Int) (s:ByteArray):
 Calls Tryz.prog 17 #[.agg #[v],.int .i64 f,.string s] w fun e w'=>e= .returned (.int .i64 (bY L f s))∧Below w.heap.size w w':=by
 by_cases hh:0≤f∧f.toNat<L.length∧Sc.aH s.data.toList=true
 · obtain ⟨k,rfl⟩:∃ k:Nat,f=k:=⟨f.toNat,by omega⟩
   exact IK h hz hf (by simpa using hh.2.1) s hh.2.2
 · exact QF h f s hh
def ltS (s t:ByteArray):Bool:=Op.bytesLess s.toList t.toList
def cF (q:Option ByteArray) (s:ByteArray):Bool:=Sc.aH s.data.toList&&(match q with
 |none=>true
 |some p=>ltS p s)
def cG (L:List Sp):Bool:=decide (0<L.length)&&dS L
def cK:Option ByteArray→List Dp→Bool
 |_,[]=>true
 |q,d::r=>cF q d.nm&&cG d.rg&&cK (some d.nm) r
def aO (L:List Dp):Bool:=decide (L.length≤16)&&cK none L
def dD (L:List Dp):Option ByteArray:=L.getLast?.map (·.nm)
theorem DepsAt.len {w:World} {v:Value} {L:List Dp} (h:DepsAt w v L):∃ ad cap,v= .slice ad L.length cap∧L.length≤cap:=by
 obtain ⟨ad,cap,rfl,h,_⟩:=h;exact ⟨ad,cap,rfl,h⟩
theorem uP {v:Value} {L:List Sp} {w:World} (h:SpansAt w v L):
 Calls Tryz.prog 240 #[v] w fun e w'=>e= .returned (.bool (cG L))∧Below w.heap.size w w':=by
 have HM:=aA (wJ h);obtain ⟨ad,cap,rfl⟩:=h.sl;clear h
 by_cases h0:0<L.length
 · have HR:Hid (cG L=dS L):=by unfold Hid cG;simp [h0]
   go_enter Tryz.func240,Tryz.ntmps240
   go_wp2_with (go_at_call 241;refine HM.out.mono ?_;rintro e w1 ⟨rfl,ok⟩)
   go_ret;exact ⟨aC HR.out.symm,ok⟩
 · have HR:Hid (cG L=false):=by unfold Hid cG;simp [h0]
   go_enter Tryz.func240,Tryz.ntmps240
   go_wp2
   go_ret;exact ⟨aC HR.out.symm,Below.refl _ _⟩
theorem sF {va:Value} {A:List Dp} {w:World} (h:DepsAt w va A) (hl:A.length≤1000000000000) (s:ByteArray):
 Calls Tryz.prog 239 #[va,.string s] w fun e w'=>e= .returned (.bool (cF (dD A) s))∧w'=w:=by
 have HN:Hid (Calls Tryz.prog 53 #[.string s] w fun e w'=>e= .returned (.bool (Sc.aH s.data.toList))∧w'=w):=Sc.fI s w;cases hn:Sc.aH s.data.toList
 · have HR:Hid (cF (dD A) s=false):=by unfold Hid cF;rw [hn];rfl
   rw [hn] at HN;obtain ⟨ad,cap,rfl⟩:=h.sl;clear h
   go_enter Tryz.func239,Tryz.ntmps239
   go_wp2_with (go_at_call 53;refine HN.out.mono ?_;rintro e w1 ⟨rfl,rfl⟩)
   go_ret;exact ⟨aC HR.out.symm,rfl⟩
 · rw [hn] at HN
   rcases List.eq_nil_or_concat A with rfl|⟨B,d,rfl⟩
   · have HR:Hid (cF (dD []) s=true):=by unfold Hid cF;rw [hn];rfl
     obtain ⟨ad,cap,rfl⟩:=h.sl;clear h
     go_enter Tryz.func239,Tryz.ntmps239
     go_wp2_with (go_at_call 53;refine HN.out.mono ?_;rintro e w1 ⟨rfl,rfl⟩)
     go_ret;exact ⟨aC HR.out.symm,rfl⟩
   · have HR:Hid (cF (dD (B++[d])) s=Op.bytesLess d.nm.toList s.toList):=by unfold Hid cF dD;rw [hn];simp [ltS]
     rw [List.concat_eq_append] at*;obtain ⟨ad,cap,rfl,hc,hs⟩:=h
     rcases hs with hs|⟨g,o,rfl,hg,hs⟩
     · simp at hs
     · obtain ⟨u,c0,hrest⟩:=hs B.length (by simp)
       clear hrest hs;simp only [List.getElem_concat_length] at c0;have hlen:(B++[d]).length=B.length+1:=by simp
       rw [hlen] at hl hc ⊢;generalize B.length=m at*;have w1:IntKind.i64.wrap (((m+1:Nat):Int) - 1)=(m:Int):=by rw [IntKind.wrap_i64];omega
       go_enter Tryz.func239,Tryz.ntmps239
       go_wp2_with (go_at_call 53;refine HN.out.mono ?_;rintro e w1 ⟨rfl,rfl⟩)
       go_ret;exact ⟨aC HR.out.symm,rfl⟩
theorem DepsAt.take {w:World} {ad:Option Addr} {cap:Nat} {L:List Dp} (h:DepsAt w (.slice ad L.length cap) L) {k:Nat} (hk:k≤L.length):DepsAt w (.slice ad k cap) (L.take k):=by
 obtain ⟨ad',cap',e,hc,hs⟩:=h;cases e;refine ⟨ad,cap,by simp [Nat.min_eq_left hk],by simp;omega,?_⟩
 rcases hs with rfl|⟨g,o,rfl,hg,hs⟩
 · exact Or.inl (by simp)
 · refine Or.inr ⟨g,o,rfl,hg,fun i hi=> ?_⟩
   have hi':i<L.length:=by simp at hi;omega
   obtain ⟨u,hu⟩:=hs i hi';exact ⟨u,by simpa using hu⟩
theorem jC {L:List Dp} {k:Nat} (h:k<L.length):dD (L.take (k+1))=some L[k].nm:=by
 unfold dD;rw [List.take_succ_eq_append_getElem h,List.getLast?_concat];rfl
def KM (w:World) (N:Nat) (s:ByteArray) (u:Value) (d:Dp) (va:Value) (A:List Dp) (w1:World):Prop:=Below w.heap.size w w1∧BxD w1 N s u∧SpansAt w1 u d.rg∧DepsAt w1 va A
theorem uQ (w:World) (N:Nat) (s:ByteArray) (u:Value) (d:Dp) (va:Value) (A:List Dp):KeepP (KM w N s u d va A):=(aD w).and ((QD _ _ _).and ((GW _ _).and (LY _ _)))
set_option maxHeartbeats 3200000 in
theorem uR (L:List Dp) (hlen:L.length≤16) (g o cap:Nat) (w:World) (h:DepsAt w (.slice (some ⟨g,o,none⟩) L.length cap) L) (hs:∀ i (h:i<L.length),∃ u,DpIn w g (o+i*2) L[i] u):
 Calls Tryz.prog 197 #[.slice (some ⟨g,o,none⟩) L.length cap] w fun e w'=>e= .returned (.bool (aO L))∧Below w.heap.size w w':=by
 have HL:Hid (∀ w1,Below w.heap.size w w1→∀ i (h:i<L.length),∃ u,DpIn w1 g (o+i*2) L[i] u):=fun w1 hb i hi=>(hs i hi).imp fun u h=>h.below hb
 have HD:Hid (∀ w1,Below w.heap.size w w1→∀ k,k≤L.length→DepsAt w1 (.slice (some ⟨g,o,none⟩) k cap) (L.take k)):=fun w1 hb k hk=>(h.below hb).take hk
 have HT:Hid (aO L=cK none L):=by unfold Hid aO;simp [hlen]
 have hcap:L.length≤cap:=by obtain ⟨_,_,e,hc,_⟩:=h;cases e;exact hc
 have h16:decide ((16:Int)<(L.length:Int))=false:=decide_eq_false (by omega);clear h hs
 go_enter Tryz.func197,Tryz.ntmps197
 go_wp2_with fail
 go_loopw [10] (fun i wr=>∃ k:Nat,k≤L.length∧i= .int .i64 k∧Below w.heap.size w wr∧cK none L=cK (dD (L.take k)) (L.drop k)) (fun i _=>L.length - (intOf i).toNat)
 case atStart=>exact ⟨0,Nat.zero_le _,rfl,Below.refl _ _,rfl⟩
 case round=>
  obtain ⟨k,hk,rfl,hb,hall⟩:=hrel;have HALL:=aA hall;have HB:=aA hb;clear hall
  by_cases hlt:k<L.length
  · obtain ⟨u,c0,c1,⟨⟨hu,_⟩,_⟩,cg⟩:=HL.out wr hb k hlt
    have hd:=HD.out wr hb k hk;have hkc:(k:Int)≤(cap:Int):=by omega
    have hc0:¬ (cap=0):=by omega
    obtain ⟨ad,uc,rfl⟩:=hu.sl;have hdr:L.drop k=L[k]::L.drop (k+1):=List.drop_eq_getElem_cons hlt
    have HST:Hid (cK none L=(cF (dD (L.take k)) L[k].nm&&cG L[k].rg&&cK (dD (L.take (k+1))) (L.drop (k+1)))):=by
     unfold Hid;rw [HALL.out,hdr,jC hlt];rfl
    have HO:Hid (KM w wr.heap.size L[k].nm (.slice ad L[k].rg.length uc) L[k] (.slice (some ⟨g,o,none⟩) k cap) (L.take k) (wr.alloc (.cells #[.string L[k].nm,.slice ad L[k].rg.length uc] 170))):=⟨aB hb (aF _ _),BxD.new rfl _ _,hu.below (aF _ _),hd.below (aF _ _)⟩;have HK:Hid (KeepP (KM w wr.heap.size L[k].nm (.slice ad L[k].rg.length uc) L[k] (.slice (some ⟨g,o,none⟩) k cap) (L.take k))):=uQ _ _ _ _ _ _ _;have HF:Hid (∀ w1,KM w wr.heap.size L[k].nm (.slice ad L[k].rg.length uc) L[k] (.slice (some ⟨g,o,none⟩) k cap) (L.take k) w1→Calls Tryz.prog 239 #[.slice (some ⟨g,o,none⟩) k cap,.string L[k].nm] w1 fun e w'=>e= .returned (.bool (cF (dD (L.take k)) L[k].nm))∧Below w1.heap.size w1 w'):=fun w1 hk1=>(sF hk1.2.2.2 (by simp;omega) _).mono fun e w' ⟨h1,h2⟩=>⟨h1,by rw [h2];exact Below.refl _ _⟩
    have HG:Hid (∀ w1,KM w wr.heap.size L[k].nm (.slice ad L[k].rg.length uc) L[k] (.slice (some ⟨g,o,none⟩) k cap) (L.take k) w1→Calls Tryz.prog 240 #[.slice ad L[k].rg.length uc] w1 fun e w'=>e= .returned (.bool (cG L[k].rg))∧Below w1.heap.size w1 w'):=fun w1 hk1=>uP hk1.2.2.1
    clear hu hd hdr HALL hb;generalize cF (dD (L.take k)) L[k].nm=bf at*;generalize cG L[k].rg=bg at*;generalize L[k].rg.length=n at*;generalize L[k].nm=s at*;generalize L[k]=d at*;cases bf
    · have HR:Hid (aO L=false):=by unfold Hid;rw [HT.out,HST.out];rfl
      clear HST HG
      go_wp2_with fail
      refine aM HK (by kernel_rfl) (by kernel_rfl) (by first|exact HO.out|exact HK.out.drew HO.out) ?_;intro C HIN HOUT;clear HO
      repeat
       (with_reducible refine wpQuiet_step (fun K hK=> ?_)
        go_simp
        first
         |(refine hK _ ?_;clear hK K)
         |(apply Exists.intro;refine ⟨fun w1 hC=> ?_,hK _ ?_⟩;(focus ((first|(go_at_call 239;with_reducible exact aW HIN HOUT HK HF.out w1 hC)|(exact rfl)|(obtain ⟨hb1,⟨k0,k1,k2⟩,hs1,hd1⟩:=HOUT.out w1 hC;clear hC;go_simp;first|done|exact rfl));done));clear hK K))
      refine wpQuiet_nil ?_;intro wn hC;have HO:=aA (HOUT.out _ hC);clear hC HIN HOUT C;obtain ⟨hb1,⟨k0,k1,k2⟩,hs1,hd1⟩:=HO.out
      go_wp2
      go_ret;exact ⟨aC HR.out.symm,HO.out.1⟩
    · cases bg
      · have HR:Hid (aO L=false):=by unfold Hid;rw [HT.out,HST.out];rfl
        clear HST
        go_wp2_with fail
        refine aM HK (by kernel_rfl) (by kernel_rfl) (by first|exact HO.out|exact HK.out.drew HO.out) ?_;intro C HIN HOUT;clear HO
        repeat
         (with_reducible refine wpQuiet_step (fun K hK=> ?_)
          go_simp
          first
           |(refine hK _ ?_;clear hK K)
           |(apply Exists.intro;refine ⟨fun w1 hC=> ?_,hK _ ?_⟩;(focus ((first|(go_at_call 239;with_reducible exact aW HIN HOUT HK HF.out w1 hC)|(go_at_call 240;with_reducible exact aW HIN HOUT HK HG.out w1 hC)|(exact rfl)|(obtain ⟨hb1,⟨k0,k1,k2⟩,hs1,hd1⟩:=HOUT.out w1 hC;clear hC;go_simp;first|done|exact rfl));done));clear hK K))
        refine wpQuiet_nil ?_;intro wn hC;have HO:=aA (HOUT.out _ hC);clear hC HIN HOUT C;obtain ⟨hb1,⟨k0,k1,k2⟩,hs1,hd1⟩:=HO.out
        go_wp2
        go_ret;exact ⟨aC HR.out.symm,HO.out.1⟩
      · have HR:Hid (cK none L=cK (dD (L.take (k+1))) (L.drop (k+1))):=by unfold Hid;rw [HST.out];rfl
        clear HST
        go_wp2_with fail
        refine aM HK (by kernel_rfl) (by kernel_rfl) (by first|exact HO.out|exact HK.out.drew HO.out) ?_;intro C HIN HOUT;clear HO
        repeat
         (with_reducible refine wpQuiet_step (fun K hK=> ?_)
          go_simp
          first
           |(refine hK _ ?_;clear hK K)
           |(apply Exists.intro;refine ⟨fun w1 hC=> ?_,hK _ ?_⟩;(focus ((first|(go_at_call 239;with_reducible exact aW HIN HOUT HK HF.out w1 hC)|(go_at_call 240;with_reducible exact aW HIN HOUT HK HG.out w1 hC)|(exact rfl)|(obtain ⟨hb1,⟨k0,k1,k2⟩,hs1,hd1⟩:=HOUT.out w1 hC;clear hC;go_simp;first|done|exact rfl));done));clear hK K))
        refine wpQuiet_nil ?_;intro wn hC;have HO:=aA (HOUT.out _ hC);clear hC HIN HOUT C;obtain ⟨hb1,⟨k0,k1,k2⟩,hs1,hd1⟩:=HO.out
        go_wp2
        exact ⟨⟨k+1,by omega,by go_num,HO.out.1,HR.out⟩,by simp [intOf];omega⟩
  · have hke:k=L.length:=by omega
    subst hke;have HR:Hid (aO L=true):=by unfold Hid;rw [HT.out,HALL.out];simp [cK]
    clear hb
    go_wp2
    go_ret;exact ⟨aC HR.out.symm,HB.out⟩
theorem uS (ad:Option Addr) (n cap:Nat) (h:16<n) (w:World):
 Calls Tryz.prog 197 #[.slice ad n cap] w fun e w'=>e= .returned (.bool false)∧Below w.heap.size w w':=by
 have hn:(16:Int)<(n:Int):=by omega
 go_enter Tryz.func197,Tryz.ntmps197
 go_wp2
 go_ret;exact ⟨rfl,Below.refl _ _⟩
theorem xA (ad:Option Addr) (cap:Nat) (w:World):
 Calls Tryz.prog 197 #[.slice ad 0 cap] w fun e w'=>e= .returned (.bool true)∧Below w.heap.size w w':=by
 go_enter Tryz.func197,Tryz.ntmps197
 go_wp2_with fail
 go_loop [10] (fun i=>i= .int .i64 0) (fun _=>0)
 case atStart=>rfl
 case round=>
  subst hrel
  go_wp2
  go_ret;exact ⟨rfl,Below.refl _ _⟩
theorem dV {v:Value} {L:List Dp} {w:World} (h:DepsAt w v L):
 Calls Tryz.prog 197 #[v] w fun e w'=>e= .returned (.bool (aO L))∧Below w.heap.size w w':=by
 have h':=h;obtain ⟨ad,cap,rfl,hc,hs⟩:=h'
 by_cases h16:L.length≤16
 · rcases hs with rfl|⟨g,o,rfl,hg,hs⟩
   · exact xA _ _ w
   · exact uR L h16 g o cap w h hs
 · have:aO L=false:=by unfold aO;simp [h16]
   rw [this];exact uS _ _ _ (by omega) w
end Go.Proofs.YtlmpiohbmlddiaaGreatDoor
