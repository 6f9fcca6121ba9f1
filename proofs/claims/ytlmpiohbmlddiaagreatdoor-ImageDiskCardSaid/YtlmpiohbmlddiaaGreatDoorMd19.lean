/- Dk2, Dk3, Dk4, Od1, Od2: their declarations that are needed, laid in one text, remarks and blanks left out. -/
import Derived.Deep.Light
import Derived.Sort.KeysCollected
import Derived.Deep.DeepHandedRow
import Derived.Deep.DeepWitnessRowRef
import Derived.Test.YtlmpiohbmlddiaaGreatDoorMd18
namespace Go.Proofs.YtlmpiohbmlddiaaGreatDoor.Dk
open Go.RowKit Go.Maps Go.WideMaps Go.WideElems Go.Sort Go.Shelf
set_option maxRecDepth 100000
open Go.RowKit
open Go.RowKit Go.Maps
def nD:List UInt8→List (List UInt8)
 |[]=>[[]]
 |c::r=>if c=47 then []::nD r else match nD r with
  |h::t=>(c::h)::t
  |[]=>[[c]]
theorem mQ:∀ l:List UInt8,Lib.splitK [47] 0 (Lib.count l [47]) l=nD l
 |[]=>by rw [Lib.count_one];rfl
 |c::r=>by
  have ih:=mQ r
  by_cases hc:c=47
  · subst hc
    have hix:Lib.index ((47:UInt8)::r) [47]=0:=by rw [Lib.index];simp [List.isPrefixOf]
    rw [Lib.count_cons_eq,Nat.add_comm];unfold Lib.splitK nD;rw [hix,if_neg (by decide),if_pos rfl];simp [ih]
  · rw [Lib.count_cons_ne c 47 r hc]
    have hp:([47]:List UInt8).isPrefixOf (c::r)=false:=by simp [List.isPrefixOf,Ne.symm hc]
    have hix:Lib.index (c::r) [47]=if Lib.index r [47]== -1 then -1 else Lib.index r [47]+1:=by rw [Lib.index,hp];simp
    unfold nD;rw [if_neg hc,←ih];cases hk:Lib.count r [47] with
    |zero=>rfl
    |succ k=>
     have hm:Lib.index r [47]≠ -1:=fun e=>by rw [Lib.count_miss e] at hk;cases hk
     have hge:=Lib.index_ge r [47];unfold Lib.splitK;rw [hix];have e1:(Lib.index r [47]== -1)=false:=beq_eq_false_iff_ne.2 hm;rw [e1];simp only [Bool.false_eq_true,if_false];rw [if_neg (by simp;omega)];have e2:(Lib.index r [47]+1).toNat=(Lib.index r [47]).toNat+1:=by omega
     rw [e2]
     simp
def dA (cur r:List UInt8):Bool:=match nD r with
 |h::t=>bL (cur++h)&&t.all bL
 |[]=>bL cur
theorem tZ (r:List UInt8):∃ h t,nD r=h::t:=by
 cases r with
 |nil=>exact ⟨[],[],rfl⟩
 |cons c r=>
  unfold nD
  split
  · exact ⟨_,_,rfl⟩
  · split<;>exact ⟨_,_,rfl⟩
theorem BJ (cur:List UInt8):dA cur []=bL cur:=by simp [dA,nD]
theorem uA (cur r:List UInt8):dA cur (47::r)=(bL cur&&dA [] r):=by
 obtain ⟨h,t,e⟩:=tZ r;simp [dA,nD,e]
theorem lB (cur r:List UInt8) (c:UInt8) (hc:c≠47):dA cur (c::r)=dA (cur++[c]) r:=by
 obtain ⟨h,t,e⟩:=tZ r;simp [dA,nD,e,hc]
theorem BK (r:List UInt8):dA [] r=(nD r).all bL:=by
 obtain ⟨h,t,e⟩:=tZ r;simp [dA,e]
theorem lC (s:ByteArray) (a b:Nat):(s.extract a b).data.toList=(s.data.toList.drop a).take (b - a):=by
 rw [ByteArray.data_extract,Array.toList_extract]
theorem xT (s:ByteArray):bT s=(decide (2≤s.size)&&decide (s.size≤4096)&&(s.data.toList.head? ==some 47)&&dA [] (s.data.toList.drop 1)):=by
 have hsp:(Lib.splitB eG 0 (Lib.countB (s.extract 1 s.size) eG) (s.extract 1 s.size)).all (fun p=>bL p.data.toList)=dA [] (s.data.toList.drop 1):=by
  have e:(s.extract 1 s.size).data.toList=s.data.toList.drop 1:=by rw [lC,List.take_of_length_le (by rw [List.length_drop,dD];omega)]
  have h1:=Lib.splitB_data eG 0 (Lib.countB (s.extract 1 s.size) eG) (s.extract 1 s.size);have h2:Lib.countB (s.extract 1 s.size) eG=Lib.count (s.extract 1 s.size).data.toList [47]:=rfl;rw [BK,←mQ,←e,←h2];have h3:eG.data.toList=[47]:=rfl;rw [h3] at h1;rw [←h1,List.all_map];rfl
 unfold bT eH;rw [hsp,eF];cases hl:s.data.toList with
 |nil=>
  have:s.size=0:=by rw [←dD,hl];rfl
  simp [Lib.hasPrefix,this]
 |cons a t=>
  have hsz:s.size=t.length+1:=by rw [←dD,hl];rfl
  rw [hsz];cases t with
  |nil=>
   simp [Lib.hasPrefix];rintro (h|⟨h,_⟩)
   · exact h
   · exact h.symm
  |cons b t=>
   have h1:(a::b::t==[47])=false:=by simp
   rw [h1];have h2:decide (2≤(b::t).length+1)=true:=by simp
   rw [h2]
   have h3:Lib.hasPrefix (a::b::t) [47]=((a::b::t).head? ==some 47):=by
    simp only [Lib.hasPrefix,List.isPrefixOf,List.head?_cons,Bool.and_true];rw [Bool.eq_iff_iff];simp;exact eq_comm
   rw [h3];simp
theorem aB {p:Prop} (h:p):Hid p:=h
end Go.Proofs.YtlmpiohbmlddiaaGreatDoor.Dk
namespace Go.Proofs.YtlmpiohbmlddiaaGreatDoor.Dk
open Go.RowKit Go.Maps
set_option maxRecDepth 100000
open Go.RowKit Go.Maps Go.Sort
open Go.RowKit Go.Maps Go.WideMaps Go.WideElems
open Go.RowKit Go.Maps Go.WideMaps Go.WideElems Go.Sort Go.Shelf
def GH (w:World):World:=(w.alloc (.map #[] 0)).alloc (.cells #[.map (some w.heap.size),.slice none 0 0,.int .i64 (-1)] 113)
theorem DV (w:World):Calls Tryz.prog 49 #[] w fun e w'=>e= .returned (.pointer (some ⟨w.heap.size+1,0,none⟩))∧w'=GH w:=MF w
theorem GI (w:World):(GH w).heap.size=w.heap.size+2:=by simp [GH]
def okF (f:Fl):Bool:=bT f.1&& !(f.2.1&& !(f.2.2.toList==[]))
def GJ (D:DataW Unit) (f:Fl):DataW Unit:=D.put (dS f.1) (jH f.2.1 f.2.2)
def bB (fs:List Fl):DataW Unit:=fs.foldl GJ (.map [])
end Go.Proofs.YtlmpiohbmlddiaaGreatDoor.Dk
namespace Go.Proofs.YtlmpiohbmlddiaaGreatDoor.Dk
open Go.RowKit Go.Maps Go.WideMaps Go.WideElems Go.Sort Go.Shelf
set_option maxRecDepth 100000
open Go.ChangeShapes Go.WideShapes Go.ChangeAt Go.RowKit
theorem BL (fs:List Fl) (k:Nat) (hk:k<fs.length):bB (fs.take (k+1))=GJ (bB (fs.take k)) fs[k]:=by
 unfold bB;rw [List.take_succ_eq_append_getElem hk,List.foldl_append];rfl
theorem jX (fs:List Fl) (f:Fl):bB (fs++[f])=GJ (bB fs) f:=by
 unfold bB;rw [List.foldl_append];rfl
def hQ (fs:List Fl):Prop:=(∀ i (hi:i<fs.length),okF fs[i]=true∧bS (bB (fs.take i)) fs[i].1=0)∧∀ i (hi:i<fs.length),dE (bB fs) fs[i].1=0
theorem lM {D:DataW Unit} (h:IsMap D) (f:Fl):IsMap (GJ D f):=by
 obtain ⟨es,rfl⟩:=h;exact ⟨_,rfl⟩
theorem qB {P:List Fl→Prop} (h0:P []) (h1:∀ l f,P l→P (l++[f])) (l:List Fl):P l:=by
 have:∀ n (l:List Fl),l.length=n→P l:=by
  intro n
  induction n with
  |zero=>intro l hl;rw [List.eq_nil_of_length_eq_zero hl];exact h0
  |succ n ih=>
   intro l hl;have hne:l≠[]:=by rintro rfl;cases hl
   rw [←List.dropLast_concat_getLast hne];exact h1 _ _ (ih _ (by rw [List.length_dropLast,hl];rfl))
 exact this _ l rfl
theorem sJ (fs:List Fl):IsMap (bB fs):=by
 refine qB (P:=fun l=>IsMap (bB l)) ⟨[],rfl⟩ (fun l f h=> ?_) fs;rw [jX];exact lM h f
theorem DW (kl:Lit):Maps.has (bB []) kl=false:=rfl
theorem qC (fs:List Fl) (s:ByteArray):Maps.has (bB fs) (dS s)=true↔∃ f ∈ fs,f.1=s:=by
 refine qB (P:=fun l=>Maps.has (bB l) (dS s)=true↔∃ f ∈ l,f.1=s) ?_ (fun l f h=> ?_) fs
 · rw [DW]
   exact ⟨(fun h=>by cases h),(fun ⟨f,hf,_⟩=>by cases hf)⟩
 · rw [jX]
   unfold GJ
   by_cases e:f.1=s
   · rw [e,has_put_same (sJ l) (QG s)]
     exact ⟨fun _=>⟨f,by simp,e⟩,fun _=>rfl⟩
   · rw [has_put_other (fun h'=>e (qA h').symm),h]
     constructor
     · rintro ⟨g,hg,rfl⟩
       exact ⟨g,by simp [hg],rfl⟩
     · rintro ⟨g,hg,rfl⟩
       rcases List.mem_append.1 hg with hg|hg
       · exact ⟨g,hg,rfl⟩
       · exact absurd (List.mem_singleton.1 hg ▸ rfl) e
theorem PA (fs:List Fl) (hd:fs.Pairwise fun x y=>x.1≠y.1) (f:Fl) (hf:f ∈ fs):(bB fs).atKey (dS f.1) pX=jH f.2.1 f.2.2:=by
 revert hd hf;refine qB (P:=fun l=>(l.Pairwise fun x y=>x.1≠y.1)→f ∈ l→(bB l).atKey (dS f.1) pX=jH f.2.1 f.2.2) ?_ (fun l g h=> ?_) fs
 · intro _ hf
   cases hf
 · intro hd hf
   rw [List.pairwise_append] at hd;rw [jX];unfold GJ
   rcases List.mem_append.1 hf with hf|hf
   · have hne:f.1≠g.1:=hd.2.2 f hf g (by simp)
     rw [atKey_put_other (fun e=>hne (qA e))];exact h hd.1 hf
   · obtain rfl:=List.mem_singleton.1 hf
     exact atKey_put_same (sJ l) (QG f.1) _ _
theorem iX {D:DataW Unit} {s:ByteArray} (h1:(s.toList==[47])=false) (h2:Maps.has D (dS s)=false):bS D s=0:=by
 unfold bS;rw [if_neg (by rw [h1];decide),if_neg (by rw [h2];decide)]
def nK (p:ByteArray) (c:Bool) (t:ByteArray):Obj:= .cells #[.string p,.bool c,.string t] 45
theorem xU (w W:World) (p:ByteArray) (c:Bool) (t:ByteArray) (hb:Below (w.alloc (nK p c t)).heap.size (w.alloc (nK p c t)) W):
 W.cell? ⟨w.heap.size,0,none⟩=some (.string p)∧W.cell? ⟨w.heap.size,1,none⟩=some (.bool c)∧W.cell? ⟨w.heap.size,2,none⟩=some (.string t):=by
 have q:∀ i,W.cell? ⟨w.heap.size,i,none⟩=(w.alloc (nK p c t)).cell? ⟨w.heap.size,i,none⟩:=fun i=>hb.cell (p:=⟨w.heap.size,i,none⟩) (by simp)
 refine ⟨?_,?_,?_⟩<;>rw [q]<;>unfold nK<;>rw [World.cell?_alloc_new]<;>rfl
set_option maxHeartbeats 1000000 in
theorem xV (p:ByteArray) (c:Bool) (t:ByteArray) (m:Int) (w:World) (hm:w.cell? ⟨0,0,none⟩=some (.int .i64 m)):
 Calls Tryz.prog 50 #[.agg #[.string p,.bool c,.string t]] w fun e w'=>e= .returned (.bool (okF (p,c,t)))∧Below w.heap.size w w':=by
 have HP:Hid (Calls Tryz.prog 102 #[.string p] (w.alloc (.cells #[.string p,.bool c,.string t] 45)) fun e w'=>e= .returned (.bool (eH p))∧Below (w.alloc (.cells #[.string p,.bool c,.string t] 45)).heap.size (w.alloc (.cells #[.string p,.bool c,.string t] 45)) w'):=BI p m _ (pZ hm (eI w _));have HB:=aB (eI w (.cells #[.string p,.bool c,.string t] 45));have HC:=aB (fun W=>xU w W p c t)
 have HE:Hid (okF (p,c,t)=(!(p.toList==[47])&&eH p&& !(c&& !(t.toList==[])))):=by
  unfold Hid okF bT
  simp only
  rw [Bool.and_comm (eH p)]
 generalize okF (p,c,t)=ok at*;clear hm
 by_cases h1:(p.toList==[47])=true
 · rw [h1] at HE
   go_enter Tryz.func50,Tryz.ntmps50
   go_wp2
   go_ret;exact ⟨aC (by rw [HE.out];rfl),HB.out⟩
 rw [Bool.not_eq_true] at h1;rw [h1] at HE;generalize eH p=b at*;cases b
 · go_enter Tryz.func50,Tryz.ntmps50
   go_wp2_with (go_at_call 102;refine HP.out.mono ?_;rintro e w1 ⟨rfl,hb⟩)
   go_ret;exact ⟨aC (by rw [HE.out];rfl),HB.out.trans (hb.mono HB.out.size)⟩
 · cases c
   · go_enter Tryz.func50,Tryz.ntmps50
     go_wp2_with (go_at_call 102;refine HP.out.mono ?_;rintro e w1 ⟨rfl,hb⟩;obtain ⟨q0,q1,q2⟩:=HC.out _ hb)
     go_ret;exact ⟨aC (by rw [HE.out];rfl),HB.out.trans (hb.mono HB.out.size)⟩
   · by_cases ht:(t.toList==[])=true
     · rw [ht] at HE
       go_enter Tryz.func50,Tryz.ntmps50
       go_wp2_with (go_at_call 102;refine HP.out.mono ?_;rintro e w1 ⟨rfl,hb⟩;obtain ⟨q0,q1,q2⟩:=HC.out _ hb)
       go_ret;exact ⟨aC (by rw [HE.out];rfl),HB.out.trans (hb.mono HB.out.size)⟩
     · rw [Bool.not_eq_true] at ht
       rw [ht] at HE
       go_enter Tryz.func50,Tryz.ntmps50
       go_wp2_with (go_at_call 102;refine HP.out.mono ?_;rintro e w1 ⟨rfl,hb⟩;obtain ⟨q0,q1,q2⟩:=HC.out _ hb)
       go_ret;exact ⟨aC (by rw [HE.out];rfl),HB.out.trans (hb.mono HB.out.size)⟩
def mR (w:World) (fs:List Fl) (e:Ending) (w':World):Prop:=Below w.heap.size w w'∧
 ((hQ fs∧e= .returned (.tuple #[.pointer (some ⟨w.heap.size+1,0,none⟩),.int .i64 0])∧∃ n,n≤fs.length∧IsDisk w.heap.size w' (w.heap.size+1) w.heap.size n (.slice none 0 0) ⟨bB fs,[],-1⟩)∨
  (¬ hQ fs∧e= .returned (.tuple #[.pointer none,.int .i64 1])))
def DX (w:World) (g off:Nat) (fs:List Fl):Prop:=∀ k (hk:k<fs.length),w.cell? ⟨g,off+k*3,none⟩=some (.string fs[k].1)∧w.cell? ⟨g,off+k*3+1,none⟩=some (.bool fs[k].2.1)∧w.cell? ⟨g,off+k*3+1+1,none⟩=some (.string fs[k].2.2)
theorem xW {p:ByteArray} {c:Bool} {t:ByteArray} (h:okF (p,c,t)=true):bT p=true:=by
 unfold okF at h;simp only [Bool.and_eq_true] at h;exact h.1
set_option maxHeartbeats 4000000 in
theorem GK (fs:List Fl) (g off cap:Nat) (m:Int) (w:World) (hm:w.cell? ⟨0,0,none⟩=some (.int .i64 m)) (hg:g<w.heap.size) (hlen:fs.length≤3518437208799)
 (hc:DX w g off fs) (hz:∀ f ∈ fs,f.1.size≤maxLen∧f.2.2.size≤maxLen):
 Calls Tryz.prog 15 #[.slice (some ⟨g,off,none⟩) fs.length cap] w (mR w fs):=by
 have HC:=aB hc;have HZ:=aB hz;have HM:=aB hm;have hb0:=sI w;have HN:Hid (IsDisk w.heap.size (GH w) (w.heap.size+1) w.heap.size 0 (.slice none 0 0) MG):=MH (Nat.le_refl _);have HB0:Hid (Below w.heap.size w (GH w)):=hb0;have hsz:=GI w;have HNO:Hid (∀ w',¬ hQ fs→Below w.heap.size w w'→mR w fs (.returned (.tuple #[.pointer none,.int .i64 1])) w'):=fun w' h hb=>⟨hb,Or.inr ⟨h,rfl⟩⟩
 have HYES:Hid (∀ w' n,hQ fs→Below w.heap.size w w'→n≤fs.length→IsDisk w.heap.size w' (w.heap.size+1) w.heap.size n (.slice none 0 0) ⟨bB fs,[],-1⟩→mR w fs (.returned (.tuple #[.pointer (some ⟨w.heap.size+1,0,none⟩),.int .i64 0])) w'):=fun w' n h hb hn hd=>⟨hb,Or.inl ⟨h,rfl,n,hn,hd⟩⟩
 have HLD:Hid (hQ fs→∀ i (hi:i<fs.length),okF fs[i]=true∧bS (bB (fs.take i)) fs[i].1=0):=fun h=>h.1
 have HLP:Hid (hQ fs→∀ i (hi:i<fs.length),dE (bB fs) fs[i].1=0):=fun h=>h.2
 have HLI:Hid ((∀ i (hi:i<fs.length),okF fs[i]=true∧bS (bB (fs.take i)) fs[i].1=0)→(∀ i (hi:i<fs.length),dE (bB fs) fs[i].1=0)→hQ fs):=fun h h'=>⟨h,h'⟩
 clear hc hz hm hb0;generalize mR w fs=HQ at*
 go_enter Tryz.func15,Tryz.ntmps15
 go_wp2_with (go_at_call 49;refine (DV _).mono ?_;rintro e w1 ⟨rfl,rfl⟩)
 go_loopw [12] (fun i wr=>∃ k:Nat,k≤fs.length∧i= .int .i64 k∧(∃ n,n≤k∧IsDisk w.heap.size wr (w.heap.size+1) w.heap.size n (.slice none 0 0) ⟨bB (fs.take k),[],-1⟩)∧Below w.heap.size w wr∧∀ j (hj:j<fs.length),j<k→okF fs[j]=true∧bS (bB (fs.take j)) fs[j].1=0) (fun i _=>fs.length - (intOf i).toNat)
 case atStart=>exact ⟨0,Nat.zero_le _,rfl,⟨0,Nat.le_refl _,HN.out⟩,HB0.out,fun j hj h=>absurd h (Nat.not_lt_zero _)⟩
 case round=>
  obtain ⟨k,hk,rfl,⟨n,hn,hd⟩,hb,hall⟩:=hrel;have HD:=aB hd;have HB:=aB hb;have HA:=aB hall;clear hd hb hall
  by_cases hlt:k<fs.length
  · obtain ⟨f,hf⟩:∃ f,f=fs[k]:=⟨_,rfl⟩
    have HF:=aB hf;obtain ⟨p,c,t⟩:=f;have hcs:=HC.out k hlt;rw [←hf] at hcs;obtain ⟨a0,a1,a2⟩:=hcs;have b0:=(HB.out.cell (p:=⟨g,off+k*3,none⟩) hg).trans a0;have b1:=(HB.out.cell (p:=⟨g,off+k*3+1,none⟩) hg).trans a1;have b2:=(HB.out.cell (p:=⟨g,off+k*3+1+1,none⟩) hg).trans a2;have hzz:=HZ.out fs[k] (List.getElem_mem hlt);rw [←hf] at hzz;obtain ⟨hz1,hz2⟩:=hzz;have HZ1:=aB hz1;have HZ2:=aB hz2;clear hf a0 a1 a2 hz1 hz2;have HX:=aB (eI wr (.cells #[.string p,.bool c,.string t] 45));have HFN:=aB (fun W=>xU wr W p c t)
    have HML:Hid (Calls Tryz.prog 50 #[.agg #[.string p,.bool c,.string t]] (wr.alloc (.cells #[.string p,.bool c,.string t] 45)) fun e w'=>e= .returned (.bool (okF (p,c,t)))∧Below (wr.alloc (.cells #[.string p,.bool c,.string t] 45)).heap.size (wr.alloc (.cells #[.string p,.bool c,.string t] 45)) w'):=
     xV p c t m _ (pZ (HB.out.cell (p:=⟨0,0,none⟩) (nJ HM.out) |>.trans HM.out) (eI wr _))
    have HKD:Hid (∀ w1,Below wr.heap.size wr w1→Calls Tryz.prog 51 #[.pointer (some ⟨w.heap.size+1,0,none⟩),.string p] w1 fun e w'=>e= .returned (.int .i64 (bS (bB (fs.take k)) p))∧Below w1.heap.size w1 w'):=fun w1 hb=>pY (HD.out.below hb) p HZ1.out
    have HKY:Hid (keyOf Tryz.prog 9 (.string p)=some (dS p)):=sH HZ1.out
    by_cases hok:okF (p,c,t)=true
    · by_cases hkd:bS (bB (fs.take k)) p=0
      · rw [hok] at HML
        rw [hkd] at HKD;have HOK:=aB hok;have HK0:=aB hkd;clear hok hkd
        go_wp2_with (first
         |(go_at_call 50;refine HML.out.mono ?_;rintro e w1 ⟨rfl,hb1⟩;obtain ⟨q0,q1,q2⟩:=HFN.out _ hb1;have HB1:=aB hb1;have HX1:=aB (HX.out.trans (hb1.mono HX.out.size));clear hb1)
         |(go_at_call 51;refine (HKD.out _ HX1.out).mono ?_;rintro e w2 ⟨rfl,hb2⟩;clear q0 q1 q2;obtain ⟨q0,q1,q2⟩:=HFN.out _ (HB1.out.trans (hb2.mono HB1.out.size));have HX2:=aB (HX1.out.trans (hb2.mono HX1.out.size));have c0:=(HD.out.below HX2.out).c0;clear hb2))
        obtain ⟨w4,hrun,hown4,hg4⟩:=(HD.out.below HX2.out.drew).own.update QF Tryz.underlying111 (by unfold maxLen;omega) HKY.out (xP (b:=c) HZ2.out);have hxs:wr.heap.size<w2.drew.heap.size:=by have:=HX2.out.size;have:=nJ q0;exact this
        have hds:w.heap.size+1<w2.drew.heap.size:=nJ c0;have HOWN4:=aB hown4;have HG4:=aB hg4;have e0:=(gJ hg4 hds (fun e=>by have:=Option.some.inj e;omega) 0).1.trans c0;have e1:=(gJ hg4 hxs (fun e=>by have:=Option.some.inj e;have:=HB.out.size;have:=HD.out.own.lt;omega) 0).1.trans q0;have e2:=(gJ hg4 hxs (fun e=>by have:=Option.some.inj e;have:=HB.out.size;have:=HD.out.own.lt;omega) 1).1.trans q1;have e3:=(gJ hg4 hxs (fun e=>by have:=Option.some.inj e;have:=HB.out.size;have:=HD.out.own.lt;omega) 2).1.trans q2;clear hown4 hg4 hxs hds
        go_region_held3 (fun w'=>w'.cell? ⟨w.heap.size+1,0,none⟩=some (.map (some w.heap.size))∧w'.cell? ⟨wr.heap.size,0,none⟩=some (.string p)∧w'.cell? ⟨wr.heap.size,1,none⟩=some (.bool c)∧w'.cell? ⟨wr.heap.size,2,none⟩=some (.string t)) (go_keep) (fail)
        all_goals go_wp2_with fail
        have ht:=RW (HD.out.below HX2.out.drew) HOWN4.out HG4.out (MJ (xW HOK.out) HD.out.keys);refine ⟨⟨k+1,by omega,by go_num,⟨n+1,by omega,?_⟩,?_,fun j hj hjk=> ?_⟩,by simp [intOf];omega⟩
        · rw [BL fs k hlt,←HF.out]
          exact ht.1
        · refine (HB.out.trans (HX2.out.drew.mono HB.out.size)).trans (ht.2.below (Nat.le_trans HB.out.size HX2.out.size) fun i hi=> ?_)
          rcases hi with rfl|rfl|hi
          · omega
          · omega
          · cases hi
        · by_cases e:j=k
          · subst e
            rw [←HF.out];exact ⟨HOK.out,HK0.out⟩
          · exact HA.out j hj (by omega)
      · have HNL:Hid (¬ hQ fs):=fun h=>hkd (by have:=(HLD.out h k hlt).2;rw [←HF.out] at this;exact this)
        have hk0:(bS (bB (fs.take k)) p==0)=false:=by simpa using hkd
        rw [hok] at HML;generalize bS (bB (fs.take k)) p=kd at*;clear hok hkd
        go_wp2_with (first
         |(go_at_call 50;refine HML.out.mono ?_;rintro e w1 ⟨rfl,hb1⟩;obtain ⟨q0,q1,q2⟩:=HFN.out _ hb1;have HX1:=aB (HX.out.trans (hb1.mono HX.out.size));clear hb1)
         |(go_at_call 51;refine (HKD.out _ HX1.out).mono ?_;rintro e w2 ⟨rfl,hb2⟩;have HX2:=aB (HX1.out.trans (hb2.mono HX1.out.size));clear hb2))
        exact HNO.out _ HNL.out (HB.out.trans (HX2.out.mono HB.out.size))
    · have HNL:Hid (¬ hQ fs):=fun h=>hok (by have:=(HLD.out h k hlt).1;rw [←HF.out] at this;exact this)
      rw [Bool.not_eq_true] at hok;rw [hok] at HML;clear hok
      go_wp2_with (go_at_call 50;refine HML.out.mono ?_;rintro e w1 ⟨rfl,hb1⟩;have HX1:=aB (HX.out.trans (hb1.mono HX.out.size));clear hb1)
      exact HNO.out _ HNL.out (HB.out.trans (HX1.out.mono HB.out.size))
  · obtain rfl:k=fs.length:=by omega
    rw [List.take_length] at HD;have HA':Hid (∀ i (hi:i<fs.length),okF fs[i]=true∧bS (bB (fs.take i)) fs[i].1=0):=fun i hi=>HA.out i hi hi
    clear HA;obtain ⟨wa,rfl⟩:∃ x,x=wr:=⟨wr,rfl⟩
    go_wp2
    go_loopw [40] (fun i wr=>∃ k:Nat,k≤fs.length∧i= .int .i64 k∧Below wa.heap.size wa wr∧∀ j (hj:j<fs.length),j<k→dE (bB fs) fs[j].1=0) (fun i _=>fs.length - (intOf i).toNat)
    case atStart=>exact ⟨0,Nat.zero_le _,rfl,Below.refl _ _,fun j hj h=>absurd h (Nat.not_lt_zero _)⟩
    case round=>
     obtain ⟨j,hj,rfl,hbq,hpar⟩:=hrel;have HBQ:=aB hbq;have HPR:=aB hpar;have HBW:=aB (HB.out.trans (hbq.mono HB.out.size));clear hbq hpar
     by_cases hlt2:j<fs.length
     · obtain ⟨f,hf⟩:∃ f,f=fs[j]:=⟨_,rfl⟩
       have HF:=aB hf;obtain ⟨p,c,t⟩:=f;have hcs:=HC.out j hlt2;rw [←hf] at hcs;obtain ⟨a0,a1,a2⟩:=hcs;have b0:=(HBW.out.cell (p:=⟨g,off+j*3,none⟩) hg).trans a0;have b1:=(HBW.out.cell (p:=⟨g,off+j*3+1,none⟩) hg).trans a1;have b2:=(HBW.out.cell (p:=⟨g,off+j*3+1+1,none⟩) hg).trans a2
       have hop:bT p=true:=by
        have:=(HA'.out j hlt2).1
        rw [←hf] at this;exact xW this
       clear hf a0 a1 a2;have HX:=aB (HBQ.out.trans ((eI wr (.cells #[.string p,.bool c,.string t] 45)).mono HBQ.out.size));have HPF:Hid (∀ W,Below wa.heap.size wa W→Calls Tryz.prog 52 #[.pointer (some ⟨w.heap.size+1,0,none⟩),.string p] W fun e w'=>e= .returned (.int .i64 (dE (bB fs) p))∧Below W.heap.size W w'):=fun W hb=>mZ (HD.out.below hb) p hop
       clear hop
       by_cases hp0:dE (bB fs) p=0
       · rw [hp0] at HPF
         have HP0:=aB hp0;clear hp0
         go_wp2_with (go_at_call 52;refine (HPF.out _ HX.out).mono ?_;rintro e w2 ⟨rfl,hb2⟩;have HX2:=aB (HX.out.trans (hb2.mono HX.out.size));clear hb2)
         refine ⟨⟨j+1,by omega,by go_num,HX2.out,fun i hi hij=> ?_⟩,by simp [intOf];omega⟩
         by_cases e:i=j
         · subst e
           rw [←HF.out];exact HP0.out
         · exact HPR.out i hi (by omega)
       · have HNL:Hid (¬ hQ fs):=fun h=>hp0 (by have:=HLP.out h j hlt2;rw [←HF.out] at this;exact this)
         have hk0:(dE (bB fs) p==0)=false:=by simpa using hp0
         generalize dE (bB fs) p=pd at*;clear hp0
         go_wp2_with (go_at_call 52;refine (HPF.out _ HX.out).mono ?_;rintro e w2 ⟨rfl,hb2⟩;have HX2:=aB (HX.out.trans (hb2.mono HX.out.size));clear hb2)
         exact HNO.out _ HNL.out (HB.out.trans (HX2.out.mono HB.out.size))
     · obtain rfl:j=fs.length:=by omega
       go_wp2
       exact HYES.out _ n (HLI.out HA'.out fun i hi=>HPR.out i hi hi) HBW.out hn (HD.out.below HBQ.out)
set_option maxHeartbeats 1000000 in
theorem MK (ao:Option Addr) (cap:Nat) (w:World):Calls Tryz.prog 15 #[.slice ao 0 cap] w (mR w []):=by
 have HYES:Hid (mR w [] (.returned (.tuple #[.pointer (some ⟨w.heap.size+1,0,none⟩),.int .i64 0])) (GH w)):=⟨sI w,Or.inl ⟨⟨fun i hi=>absurd hi (Nat.not_lt_zero _),fun i hi=>absurd hi (Nat.not_lt_zero _)⟩,rfl,0,Nat.le_refl _,MH (Nat.le_refl _)⟩⟩;generalize mR w []=HQ at*
 go_enter Tryz.func15,Tryz.ntmps15
 go_wp2_with (go_at_call 49;refine (DV _).mono ?_;rintro e w1 ⟨rfl,rfl⟩)
 go_loop [12] (fun i=>i= .int .i64 0) (fun _=>0)
 case atStart=>rfl
 case round=>
  obtain rfl:=hrel
  go_wp2
  go_loop [40] (fun i=>i= .int .i64 0) (fun _=>0)
  case atStart=>rfl
  case round=>
   obtain rfl:=hrel
   go_wp2
   exact HYES.out
def nL (w:World) (a:Option Addr) (fs:List Fl):Prop:=fs=[]∨∃ g off,a=some ⟨g,off,none⟩∧g<w.heap.size∧DX w g off fs
theorem ML (fs:List Fl) (a:Option Addr) (cap:Nat) (m:Int) (w:World) (hm:w.cell? ⟨0,0,none⟩=some (.int .i64 m)) (hlen:fs.length≤3518437208799)
 (hc:nL w a fs) (hz:∀ f ∈ fs,f.1.size≤maxLen∧f.2.2.size≤maxLen):Calls Tryz.prog 15 #[.slice a fs.length cap] w (mR w fs):=by
 rcases hc with rfl|⟨g,off,rfl,hg,hc⟩
 · exact MK a cap w
 · exact GK fs g off cap m w hm hg hlen hc hz
end Go.Proofs.YtlmpiohbmlddiaaGreatDoor.Dk
namespace Go.Proofs.YtlmpiohbmlddiaaGreatDoor
open Go.RowKit
set_option maxRecDepth 100000
def uB:ByteArray:=⟨#[47,112,97,99,107,97,103,101]⟩
theorem iY:uB.size=8:=rfl
def odT (p:List ByteArray) (s:ByteArray) (k:Nat):ByteArray:=aF (p.take k++[s])
def odK (D:DataW Unit) (p:List ByteArray) (s:ByteArray) (k:Nat):Int:=Dk.bS D (odT p s k++uB)
def odN (D:DataW Unit) (p:List ByteArray) (s:ByteArray):Nat→Option ByteArray
 |0=>if odK D p s 0=1 then some (odT p s 0) else none
 |k+1=>if odK D p s (k+1)=1 then some (odT p s (k+1)) else odN D p s k
theorem BM {D:DataW Unit} {p:List ByteArray} {s:ByteArray} {k:Nat} (h:odK D p s k=1):odN D p s k=some (odT p s k):=by
 cases k with
 |zero=>unfold odN;rw [if_pos h]
 |succ k=>unfold odN;rw [if_pos h]
theorem nM {D:DataW Unit} {p:List ByteArray} {s:ByteArray} {k:Nat} (h:odK D p s (k+1)≠1):odN D p s (k+1)=odN D p s k:=by
 rw [odN,if_neg h]
theorem BN {D:DataW Unit} {p:List ByteArray} {s:ByteArray} (h:odK D p s 0≠1):odN D p s 0=none:=by
 rw [odN,if_neg h]
theorem jY {p:List ByteArray} {s:ByteArray} (hp:aI p=true) (hs:Sc.aG s.data.toList=true) (k:Nat):aI (p.take k++[s])=true:=by
 unfold aI at*;rw [List.all_append,Bool.and_eq_true,List.all_eq_true];refine ⟨fun x hx=> ?_,by simpa using hs⟩;rw [List.all_eq_true] at hp;exact hp x (List.mem_of_mem_take hx)
theorem BO {p:List ByteArray} {s:ByteArray} (hp:aI p=true) (hs:Sc.aG s.data.toList=true) (k:Nat):odT p s k=aL (p.take k++[s]):=by
 unfold odT aF;rw [if_neg (by simp),if_pos (jY hp hs k)];rfl
theorem MM {p:List ByteArray} {s:ByteArray} (hp:aI p=true) (hs:Sc.aG s.data.toList=true) {k:Nat} (hk:k≤p.length):10*(k+1)≤(odT p s k).size:=by
 rw [BO hp hs,bV]
 have:=dR (jY hp hs k)
 rw [List.length_append,List.length_take,Nat.min_eq_left hk] at this;exact this
theorem qD (t:ByteArray):((t++uB).toList==[47])=false:=by
 rw [beq_eq_false_iff_ne];intro e;have h:=congrArg List.length e;rw [ByteArray.toList_eq,aK,aX,iY] at h;simp only [List.length_cons,List.length_nil] at h;omega
def uC (D:DataW Unit):Prop:=∀ kl,Maps.has D kl=true→∃ s,kl=Dk.dS s∧Dk.bT s=true
theorem xX {s:ByteArray} (h:Dk.bT s=true):s.size≤4096:=by
 unfold Dk.bT Dk.eH at h;simp only [Bool.and_eq_true,Bool.or_eq_true,Bool.not_eq_true',decide_eq_true_eq] at h
 rcases h with ⟨h1|h1,h2⟩
 · rw [h1] at h2
   cases h2
 · exact h1.1.1
theorem MN {D:DataW Unit} (hk:uC D) {t:ByteArray} (h:4096<t.size) (hr:(t.toList==[47])=false):Dk.bS D t=0:=by
 refine Dk.iX hr ?_;rw [Bool.eq_false_iff];intro hh;obtain ⟨s,e,ho⟩:=hk _ hh
 have:=xX ho
 rw [Dk.qA e] at h;omega
theorem RX {D:DataW Unit} (hk:uC D) {p:List ByteArray} {s:ByteArray} (hp:aI p=true) (hs:Sc.aG s.data.toList=true) {k:Nat} (h1:409≤k) (h2:k≤p.length):odK D p s k≠1:=by
 have:=MM hp hs h2
 unfold odK;rw [MN hk (by rw [aX,iY];omega) (qD _)];decide
theorem RY {D:DataW Unit} (hk:uC D) {p:List ByteArray} {s:ByteArray} (hp:aI p=true) (hs:Sc.aG s.data.toList=true):odN D p s p.length=odN D p s (min p.length 409):=by
 have:∀ n,n≤p.length→odN D p s n=odN D p s (min n 409):=by
  intro n
  induction n with
  |zero=>intro _;rfl
  |succ n ih=>
   intro hn
   by_cases h:n+1≤409
   · rw [Nat.min_eq_left h]
   · rw [nM (RX hk hp hs (by omega) hn),ih (by omega),Nat.min_eq_right (by omega),Nat.min_eq_right (by omega)]
 exact this _ (Nat.le_refl _)
def odV (D:DataW Unit) (t s:ByteArray):Option ByteArray:=match aU t.data.toList with
 |some p=>if Sc.aG s.data.toList=true then odN D p s p.length else none
 |none=>none
theorem DY {D:DataW Unit} {t s:ByteArray} {p:List ByteArray} (h:aU t.data.toList=some p) (hs:Sc.aG s.data.toList=true):odV D t s=odN D p s p.length:=by
 unfold odV;rw [h];simp [hs]
theorem BP {D:DataW Unit} {t s:ByteArray} (h:aU t.data.toList=none∨Sc.aG s.data.toList=false):odV D t s=none:=by
 unfold odV
 rcases h with h|h
 · rw [h]
 · cases aU t.data.toList with
   |none=>rfl
   |some p=>simp [h]
def odA (r:Option ByteArray):Value:= .tuple #[.string (r.getD ⟨#[]⟩),.bool r.isSome]
theorem qE {B:Nat} {wx:World} {n:Nat} {v:Value} {xs:List Value} {s0:ByteArray} {ops:Array Oper} {rest:List Oper} {o:Oper} {f:Act} {Q:Exit→Act→World→Prop}
 (hgd:o.guard=none) (s t:Operand) (ho:o.op= .call { callee:= .builtin .append,args:= #[s,t],argTypes:= #[50,50] }) (hs:f.eval s=v)
 (hown:wx.ownsRow B 9 1 v n xs) (hB:B≤wx.heap.size) (hx:f.eval t= .slice (some ⟨wx.heap.size,0,none⟩) 1 1) (hb:((n+1)+(n+1) / 4+192)*16≤281474976710656)
 (h:∀ v1 w1,w1.ownsRow B 9 1 v1 (n+1) (xs++[.string s0])→w1.ownsRow B 9 1 v n xs→(wx.alloc (.cells #[.string s0] 9)).grownBy w1 v.ownBlock→wpList Tryz.prog ops Q rest (f.put o.dst v1) w1):
 wpList Tryz.prog ops Q (o::rest) f (wx.alloc (.cells #[.string s0] 9)):=by
 refine wpList_plain hgd fun K hK=> ?_
 obtain ⟨i0,hi,hz0,hz1,hz2⟩:=Sc.bO Sc.iO;obtain ⟨v1,w1,hr,h1,h2,h3⟩:=kL (wx.alloc (.cells #[.string s0] 9)) B 50 o.type 9 i0 _ 16 Tryz.underlying50 hi hz0 hz1 hz2 rfl v n xs (hown.alloc _) ⟨wx.heap.size,0,none⟩ 1 (.string s0) (cell_one_new _ _ _) rfl hb (by unfold maxLen;omega) (by simp;omega);unfold Oper.wp execOp;simp only [ho,resolve,invoke,builtin,Sem.run_bind,Sem.run_pure,Result.andThen_ok,List.map_toArray,List.map_cons,List.map_nil,hs,hx,hr];exact hK _ _ (h v1 w1 h1 h2 h3)
set_option maxHeartbeats 1600000 in
theorem rC {B:Nat} {w:World} {d mb n:Nat} {rv:Value} {x:Dk.Ab} (h:Dk.IsDisk B w d mb n rv x) (t:ByteArray) (ht:t.size≤219902325555200):
 Calls Tryz.prog 59 #[.pointer (some ⟨d,0,none⟩),.string t] w fun e w'=>e= .returned (.bool (Dk.bS x.D (t++uB)==1))∧Below w.heap.size w w':=by
 have HK:Hid (∀ w1,Below w.heap.size w w1→Calls Tryz.prog 51 #[.pointer (some ⟨d,0,none⟩),.string (t++uB)] w1 fun e w'=>e= .returned (.int .i64 (Dk.bS x.D (t++uB)))∧Below w1.heap.size w1 w'):=fun w1 hb=>Dk.pY (h.below hb) _ (by rw [aX,iY];unfold maxLen;omega)
 have e1:=fun W:World=>run_string_add_sum (P:=Tryz.prog) (w:=W) t uB (by rw [iY];omega)
 clear h;generalize Dk.bS x.D (t++uB)=kk at*;unfold uB at HK e1
 go_enter Tryz.func59,Tryz.ntmps59
 go_wp2_with (go_at_call 51;refine (HK.out _ (Below.refl _ _)).mono ?_;rintro e w1 ⟨rfl,ok⟩;have HB:=aB ok;clear ok)
 go_ret;exact ⟨rfl,HB.out⟩
theorem GL {t:ByteArray} (ht:t.size≤140737488351232) {p:List ByteArray} (hp:aU t.data.toList=some p):p.length≤14073748835123∧aI p=true:=by
 rcases Classical.em (p=[]) with rfl|h0
 · exact ⟨by simp,rfl⟩
 · have hn:=(mK hp).resolve_left h0
   have h2:=jR hp;have e:t.data.toList=aJ p:=by rw [←h2];unfold aF;rw [if_neg h0,if_pos hn]
   have h3:=dR hn;rw [←e,aK] at h3;exact ⟨by omega,hn⟩
theorem xY {t:ByteArray} {p:List ByteArray} (hp:aU t.data.toList=some p) {s:ByteArray} (hs:Sc.aG s.data.toList=true) (k:Nat):(aJ (p.take k++[s])).length≤t.size+25:=by
 have h1:=JV (t:=t) (by rw [hp];rfl) (k:=k);rw [hp] at h1;have h2:(aJ (p.take k)).length≤t.size:=h1;have h3:=gA hs;rw [dY];simp only [List.length_append,aK];have h9:cW.size=9:=rfl;omega
set_option maxHeartbeats 3200000 in
theorem xZ {B:Nat} {w:World} {d mb n:Nat} {rv:Value} {x:Dk.Ab} (h:Dk.IsDisk B w d mb n rv x) (t s:ByteArray) (ht:t.size≤140737488351232) {p:List ByteArray} (hp:aU t.data.toList=some p) (hn:Sc.aG s.data.toList=true):
 Calls Tryz.prog 18 #[.pointer (some ⟨d,0,none⟩),.string t,.string s] w fun e w'=>e= .returned (odA (odN x.D p s p.length))∧Below w.heap.size w w':=by
 obtain ⟨hpl,hnp⟩:=GL ht hp;have HN:Hid (∀ w1,Calls Tryz.prog 53 #[.string s] w1 fun e w'=>e= .returned (.bool true)∧w'=w1):=fun w1=>by have:=Sc.cT s w1;rw [hn] at this;exact this
 have HPR:Hid (Calls Tryz.prog 58 #[.string t] w fun e w'=>∃ v,e= .returned (.tuple #[v,.bool true])∧OwnPa w' w.heap.size v p∧Below w.heap.size w w'):=by
  have:=jP t (by omega) (wF ht) w
  rw [hp] at this;exact this
 have HTX:Hid (∀ w1 v k,PathAt w1 v (p.take k++[s])→Calls Tryz.prog 16 #[v] w1 fun e w'=>e= .returned (.string (odT p s k))∧Below w1.heap.size w1 w'):=fun w1 v k hv=>OC hv (by rw [List.length_append,List.length_take];simp only [List.length_cons,List.length_nil];omega) (fun j _ _=>by
  have h1:=fC (p.take k++[s]) j;have h2:=xY hp hn k;omega)
 have HPK:Hid (∀ w1 k,Below w.heap.size w w1→Calls Tryz.prog 59 #[.pointer (some ⟨d,0,none⟩),.string (odT p s k)] w1 fun e w'=>e= .returned (.bool (odK x.D p s k==1))∧Below w1.heap.size w1 w'):=fun w1 k hb=>rC (h.below hb) _ (by
  have h2:=xY hp hn k;rw [BO hnp hn,bV];omega)
 have HMI:Hid (odN x.D p s p.length=odN x.D p s (min p.length 409)):=RY (show uC x.D from h.keys) hnp hn;clear h hn hnp hp ht
 go_enter Tryz.func18,Tryz.ntmps18
 go_wp2_with (first
  |(go_at_call 58;refine HPR.out.mono ?_;rintro e w1 ⟨v1,rfl,hov,hb1⟩;have HO1:=aB hov;have HB1:=aB hb1;obtain ⟨a1,c1,rfl,hc1⟩:=HO1.out.form;clear hov hb1)
  |(go_at_call 53;refine (HN.out _).mono ?_;rintro e w2 ⟨rfl,hw2⟩;subst w2))
 clear HPR HN;have HOM:Hid (OwnPa w1 w.heap.size (.slice a1 (min p.length 409) c1) (p.take (min p.length 409))):=HO1.out.cut (Nat.min_le_left _ _)
 go_loopw [10] (fun vl wr=>∃ j:Nat,j≤p.length∧(∃ a c,vl= .slice a j c∧j≤c)∧OwnPa wr w.heap.size vl (p.take j)∧Below w.heap.size w wr∧odN x.D p s p.length=odN x.D p s j) (fun vl _=>match vl with| .slice _ n _=>n|_=>0)
 case atStart=>
  have hmn:(min (p.length:Int) 409).toNat=min p.length 409:=by omega
  rw [hmn];exact ⟨min p.length 409,Nat.min_le_left _ _,⟨a1,c1,rfl,by omega⟩,HOM.out,HB1.out,HMI.out⟩
 case round=>
  obtain ⟨j,hj,⟨a,c,rfl,hac⟩,hown,hb,hst⟩:=hrel;have hpl2:(p.take j).length=j:=by rw [List.length_take];omega
  have HOW:Hid (wr.ownsRow w.heap.size 9 1 (.slice a j c) j (pcs (p.take j))):=(by have e:=hown;unfold OwnPa at e;rw [hpl2] at e;exact e);have HB:=aB hb;have HST:=aB hst;have hBr:w.heap.size≤wr.heap.size:=hb.size
  have HAF:Hid (∀ v5 w5,w5.ownsRow w.heap.size 9 1 v5 (j+1) (pcs (p.take j)++[.string s])→w5.ownsRow w.heap.size 9 1 (.slice a j c) j (pcs (p.take j))→(wr.alloc (.cells #[.string s] 9)).grownBy w5 (Value.slice a j c).ownBlock→(PathAt w5 v5 (p.take j++[s])∧OwnPa w5 w.heap.size (.slice a j c) (p.take j))∧Below w.heap.size w w5):=fun v5 w5 h1 h2 h3=>by
   refine ⟨⟨OwnPa.at (B:=w.heap.size) ?_,?_⟩,HB.out.grown (iF (aD _ _) h3) HB.out.size (fun q hq=>(World.ownsRow.lt HOW.out q hq).1)⟩
   · unfold OwnPa
     rw [vL,List.length_append,hpl2];exact h1
   · unfold OwnPa
     rw [hpl2];exact h2
  have hwide:((j+1)+(j+1) / 4+192)*16≤281474976710656:=by omega
  have HTC:=aB (fun W v hv=>HTX.out W v j hv);have HPC:=aB (fun W (hW:Below w.heap.size w W)=>HPK.out W j hW);have HHIT:Hid (odK x.D p s j=1→odN x.D p s p.length=some (odT p s j)):=fun h=>by rw [HST.out];exact BM h
  have HEND:Hid (odK x.D p s j≠1→j=0→odN x.D p s p.length=none):=fun h h2=>by rw [HST.out];subst h2;exact BN h
  have HGO:Hid (∀ i,j=i+1→odK x.D p s j≠1→odN x.D p s p.length=odN x.D p s i):=fun i h h2=>by rw [HST.out];subst h;exact nM h2
  have HOC:Hid (∀ w6,OwnPa w6 w.heap.size (.slice a j c) (p.take j)→∀ i,i≤j→OwnPa w6 w.heap.size (.slice a i c) (p.take i)):=fun w6 ho i hi=>by
   have:=ho.cut hi
   rw [List.take_take,Nat.min_eq_left hi] at this;exact this
  generalize odT p s j=tx at*;generalize odK x.D p s j=kf at*;clear hown hb hst hpl2 HOM HMI HTX HPK
  by_cases hq:kf=1
  · have HR:=aB (HHIT.out hq)
    subst hq;clear HHIT HEND HGO
    go_wp2_with (first
     |(have _h:=HB6;go_at_call 59;refine (HPC.out _ HB6.out.2).mono ?_;rintro e w7 ⟨rfl,ok⟩;have HB7:=aB (aA HB6.out.2 ok);clear ok HB6)
     |(have _h:=HP5;go_at_call 16;refine (HTC.out _ _ HP5.out.1.1).mono ?_;rintro e w6 ⟨rfl,ok⟩;have HB6:Hid (OwnPa w6 w.heap.size (.slice a j c) (p.take j)∧Below w.heap.size w w6):=⟨HP5.out.1.2.below ok,aA HP5.out.2 ok⟩;clear ok HP5)
     |(at_builtin;refine qE rfl _ _ rfl rfl HOW.out hBr rfl hwide ?_;intro v5 w5 h1 h2 h3;have HP5:=aB (HAF.out v5 w5 h1 h2 h3);clear h1 h2 h3))
    go_ret2;exact ⟨by rw [HR.out];rfl,HB7.out⟩
  · have hq2:(kf==1)=false:=beq_eq_false_iff_ne.2 hq
    rw [hq2] at HPC;clear HHIT hq2
    rcases Nat.eq_zero_or_pos j with h0|h0
    · have HR:=aB (HEND.out hq h0)
      subst h0;clear HGO HEND hq
      go_wp2_with (first
       |(have _h:=HB6;go_at_call 59;refine (HPC.out _ HB6.out.2).mono ?_;rintro e w7 ⟨rfl,ok⟩;have HB7:=aB (aA HB6.out.2 ok);clear ok HB6)
       |(have _h:=HP5;go_at_call 16;refine (HTC.out _ _ HP5.out.1.1).mono ?_;rintro e w6 ⟨rfl,ok⟩;have HB6:Hid (OwnPa w6 w.heap.size (.slice a 0 c) (p.take 0)∧Below w.heap.size w w6):=⟨HP5.out.1.2.below ok,aA HP5.out.2 ok⟩;clear ok HP5)
       |(at_builtin;refine qE rfl _ _ rfl rfl HOW.out hBr rfl hwide ?_;intro v5 w5 h1 h2 h3;have HP5:=aB (HAF.out v5 w5 h1 h2 h3);clear h1 h2 h3))
      go_ret2;exact ⟨by rw [HR.out];rfl,HB7.out⟩
    · obtain ⟨i,rfl⟩:∃ i,j=i+1:=⟨j - 1,by omega⟩
      have HR:=aB (HGO.out i rfl hq);have hic:i≤c:=by omega
      clear HGO HEND hq
      go_wp2_with (first
       |(have _h:=HB6;go_at_call 59;refine (HPC.out _ HB6.out.2).mono ?_;rintro e w7 ⟨rfl,ok⟩;have HB7:Hid (OwnPa w7 w.heap.size (.slice a i c) (p.take i)∧Below w.heap.size w w7):=⟨(HOC.out _ HB6.out.1 i (by omega)).below ok,aA HB6.out.2 ok⟩;clear ok HB6)
       |(have _h:=HP5;go_at_call 16;refine (HTC.out _ _ HP5.out.1.1).mono ?_;rintro e w6 ⟨rfl,ok⟩;have HB6:Hid (OwnPa w6 w.heap.size (.slice a (i+1) c) (p.take (i+1))∧Below w.heap.size w w6):=⟨HP5.out.1.2.below ok,aA HP5.out.2 ok⟩;clear ok HP5)
       |(at_builtin;refine qE rfl _ _ rfl rfl HOW.out hBr rfl hwide ?_;intro v5 w5 h1 h2 h3;have HP5:=aB (HAF.out v5 w5 h1 h2 h3);clear h1 h2 h3))
      exact ⟨⟨i,by omega,⟨a,c,rfl,hic⟩,HB7.out.1,HB7.out.2,HR.out⟩,by simp⟩
theorem sK {w:World} (dv:Option Addr) (t s:ByteArray) (ht:t.size≤140737488351232) (hno:dv=none∨aU t.data.toList=none∨Sc.aG s.data.toList=false):
 Calls Tryz.prog 18 #[.pointer dv,.string t,.string s] w fun e w'=>e= .returned (odA none)∧Below w.heap.size w w':=by
 have HN:Hid (∀ w1,Calls Tryz.prog 53 #[.string s] w1 fun e w'=>e= .returned (.bool (Sc.aG s.data.toList))∧w'=w1):=Sc.cT s;have HPR:=aB (jP t (by omega) (wF ht) w);cases dv with
 |none=>
  clear hno
  go_enter Tryz.func18,Tryz.ntmps18
  go_wp2_with (first
   |(go_at_call 58;refine HPR.out.mono ?_;rintro e w1 ⟨v1,rfl,hov,hb1⟩;have HB1:=aB hb1;clear hov hb1)
   |(go_at_call 53;refine (HN.out _).mono ?_;rintro e w2 ⟨rfl,hw2⟩;subst w2))
  go_ret2;exact ⟨rfl,HB1.out⟩
 |some a=>
  cases hp:(aU t.data.toList).isSome with
  |false=>
   rw [hp] at HPR;clear hno hp
   go_enter Tryz.func18,Tryz.ntmps18
   go_wp2_with (first
    |(go_at_call 58;refine HPR.out.mono ?_;rintro e w1 ⟨v1,rfl,hov,hb1⟩;have HB1:=aB hb1;clear hov hb1)
    |(go_at_call 53;refine (HN.out _).mono ?_;rintro e w2 ⟨rfl,hw2⟩;subst w2))
   go_ret2;exact ⟨rfl,HB1.out⟩
  |true=>
   have hn:Sc.aG s.data.toList=false:=by
    rcases hno with h|h|h
    · cases h
    · rw [h] at hp;cases hp
    · exact h
   rw [hn] at HN;rw [hp] at HPR;clear hno hp hn
   go_enter Tryz.func18,Tryz.ntmps18
   go_wp2_with (first
    |(go_at_call 58;refine HPR.out.mono ?_;rintro e w1 ⟨v1,rfl,hov,hb1⟩;have HB1:=aB hb1;clear hov hb1)
    |(go_at_call 53;refine (HN.out _).mono ?_;rintro e w2 ⟨rfl,hw2⟩;subst w2))
   go_ret2;exact ⟨rfl,HB1.out⟩
theorem BQ {B:Nat} {w:World} {d mb n:Nat} {rv:Value} {x:Dk.Ab} (h:Dk.IsDisk B w d mb n rv x) (t s:ByteArray) (ht:t.size≤140737488351232):
 Calls Tryz.prog 18 #[.pointer (some ⟨d,0,none⟩),.string t,.string s] w fun e w'=>e= .returned (odA (odV x.D t s))∧Below w.heap.size w w':=by
 cases hp:aU t.data.toList with
 |none=>
  rw [BP (Or.inl hp)];exact sK _ t s ht (Or.inr (Or.inl hp))
 |some p=>
  cases hn:Sc.aG s.data.toList with
  |false=>
   rw [BP (Or.inr hn)];exact sK _ t s ht (Or.inr (Or.inr hn))
  |true=>
   rw [DY hp hn];exact xZ h t s ht hp hn
end Go.Proofs.YtlmpiohbmlddiaaGreatDoor
