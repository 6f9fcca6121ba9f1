/- Gd3, Gd5, Gl1, Rk9, Lt1, St1, Wg1: their declarations that are needed, laid in one text, remarks and blanks left out. -/
import Derived.Test.YtpfemjlhklnfoaaGreatDoorMg09
namespace Go.Proofs.YtpfemjlhklnfoaaGreatDoor
open Go.RowKit Go.Maps Go.WideMaps Go.Sort
set_option maxRecDepth 100000
set_option maxHeartbeats 3200000 in
theorem mW {G:List Nd} {v:Value} {nm:ByteArray} {a b c:Int} {cx:List Pn} {vc:Value} {w:World} (hG:NodesAt w v G) (hc:PinsAt w vc cx) (hz:G.length≤9223372036854775807) (hzl:∀ n ∈ G,SzN n):
 Calls Tryz.prog 30 #[.agg #[v],.string nm,.agg #[.int .i64 a,.int .i64 b,.int .i64 c],vc] w fun e w'=>e= .returned (.int .i64 (jM G ⟨nm,a,b,c,cx,[]⟩))∧Below w.heap.size w w':=by
 have HS:Hid (∀ w1,Below w.heap.size w w1→NodesAt w1 v G):=fun w1 hb=>hG.below hb
 have HC:=aA hc;have HZ:=aA hzl;obtain ⟨ad,cap,rfl⟩:=hG.sl;obtain ⟨ac,cc,rfl⟩:=hc.sl
 have HB0:Hid (Below w.heap.size w (((w.alloc (.cells #[.slice ad G.length cap] 55)).alloc (.cells #[.int .i64 a,.int .i64 b,.int .i64 c] 31)).alloc (.cells #[.string nm,.int .i64 a,.int .i64 b,.int .i64 c,.slice ac cx.length cc,.slice none 0 0] 67))∧BxG (((w.alloc (.cells #[.slice ad G.length cap] 55)).alloc (.cells #[.int .i64 a,.int .i64 b,.int .i64 c] 31)).alloc (.cells #[.string nm,.int .i64 a,.int .i64 b,.int .i64 c,.slice ac cx.length cc,.slice none 0 0] 67)) w.heap.size (.slice ad G.length cap)∧BxNd (((w.alloc (.cells #[.slice ad G.length cap] 55)).alloc (.cells #[.int .i64 a,.int .i64 b,.int .i64 c] 31)).alloc (.cells #[.string nm,.int .i64 a,.int .i64 b,.int .i64 c,.slice ac cx.length cc,.slice none 0 0] 67)) (w.heap.size+2) ⟨nm,a,b,c,cx,[]⟩ (.slice ac cx.length cc) (.slice none 0 0)):=
  ⟨tR _ _ _ _,aW _ _ _ _ (aW _ _ _ _ (BxG.new rfl _) (aD _ _)) (aD _ _),BxNd.new (by simp) ⟨nm,a,b,c,cx,[]⟩ _ _⟩
 clear hG hc hzl
 go_enter Tryz.func30,Tryz.ntmps30
 go_wp2_with fail
 go_loopw [10] (fun i wr=>∃ k:Nat,k≤G.length∧i= .int .i64 k∧(Below w.heap.size w wr∧BxG wr w.heap.size (.slice ad G.length cap)∧BxNd wr (w.heap.size+2) ⟨nm,a,b,c,cx,[]⟩ (.slice ac cx.length cc) (.slice none 0 0))∧∀ j (_:j<k) (h1:j<G.length),bW G[j] ⟨nm,a,b,c,cx,[]⟩=false) (fun i _=>G.length - (intOf i).toNat)
 case atStart=>exact ⟨0,Nat.zero_le _,rfl,HB0.out,fun j h=>by omega⟩
 case round=>
  clear HB0;obtain ⟨k,hk,rfl,hb,hall⟩:=hrel;have HALL:=aA hall;have HB:=aA hb;clear hall
  by_cases hlt:k<G.length
  · obtain ⟨ad',cap',e,_,hcs⟩:=HS.out wr hb.1
    cases e
    obtain ⟨g,o,rfl,hg,hcz⟩:∃ g o,ad=some ⟨g,o,none⟩∧g<wr.heap.size∧∀ i (h:i<G.length),∃ vc ve,NdIn wr g (o+i*6) G[i] vc ve:=by
     rcases hcs with h|h
     · rw [h] at hlt;simp at hlt
     · exact h
    clear hcs;obtain ⟨uc,ue,hx⟩:=hcz k hlt;have hzk:=(HZ.out _ (List.getElem_mem hlt)).1;have HY:Hid (bW G[k] ⟨nm,a,b,c,cx,[]⟩=true→jM G ⟨nm,a,b,c,cx,[]⟩=k):=fun h=>fH hlt h HALL.out
    have HN:Hid (bW G[k] ⟨nm,a,b,c,cx,[]⟩=false→∀ j (_:j<k+1) (h1:j<G.length),bW G[j] ⟨nm,a,b,c,cx,[]⟩=false):=fun h j hj h1=>by
     rcases Nat.lt_or_ge j k with hjk|hjk
     · exact HALL.out j hjk h1
     · obtain rfl:j=k:=by omega
       exact h
    obtain ⟨av,cv,rfl⟩:=hx.2.1.1.sl;obtain ⟨ae,ce,rfl⟩:=hx.2.1.2.sl;have HAL:Hid (∀ w1,Below w.heap.size w w1∧NdIn w1 g (o+k*6) G[k] (.slice av G[k].cx.length cv) (.slice ae G[k].ed.length ce)→Calls Tryz.prog 71 #[.agg #[.string G[k].nm,.int .i64 G[k].a,.int .i64 G[k].b,.int .i64 G[k].c,.slice av G[k].cx.length cv,.slice ae G[k].ed.length ce],.agg #[.string nm,.int .i64 a,.int .i64 b,.int .i64 c,.slice ac cx.length cc,.slice none 0 0]] w1 fun e w'=>e= .returned (.bool (bW G[k] ⟨nm,a,b,c,cx,[]⟩))∧Below w1.heap.size w1 w'):=fun w1 h=>pL (m:=⟨nm,a,b,c,cx,[]⟩) h.2.2.1.1 ⟨_,_,_,rfl⟩ (HC.out.below h.1) ⟨_,_,_,rfl⟩ hzk
    have HK:Hid (KeepP fun W=>(Below w.heap.size w W∧BxG W w.heap.size (.slice (some ⟨g,o,none⟩) G.length cap)∧BxNd W (w.heap.size+2) ⟨nm,a,b,c,cx,[]⟩ (.slice ac cx.length cc) (.slice none 0 0))∧NdIn W g (o+k*6) G[k] (.slice av G[k].cx.length cv) (.slice ae G[k].ed.length ce)):=((aL w).and ((aW _ _).and (aJ _ _ _ _))).and (kX _ _ _ _ _);have HO:Hid ((Below w.heap.size w wr∧BxG wr w.heap.size (.slice (some ⟨g,o,none⟩) G.length cap)∧BxNd wr (w.heap.size+2) ⟨nm,a,b,c,cx,[]⟩ (.slice ac cx.length cc) (.slice none 0 0))∧NdIn wr g (o+k*6) G[k] (.slice av G[k].cx.length cv) (.slice ae G[k].ed.length ce)):=⟨hb,hx⟩;obtain ⟨_,⟨y0,y1⟩,⟨z0,z1,z2,z3,z4,z5⟩,z6⟩:=hb;clear hcz hx HALL;generalize G[k]=x at*;generalize x.cx.length=l1 at*;generalize x.ed.length=l2 at*;generalize cx.length=l3 at*;cases hq:bW x ⟨nm,a,b,c,cx,[]⟩ with
    |true=>
     have HR:=aA (HY.out hq);rw [hq] at HAL;clear HY HN hq
     go_wp2_with fail
     clear y0 y1 z0 z1 z2 z3 z4 z5 z6;refine aX HK (by kernel_rfl) (by kernel_rfl) (by first|exact HO.out|exact HK.out.drew HO.out) ?_;intro C HIN HOUT;clear HO
     repeat
      (with_reducible refine wpQuiet_step (fun K hK=> ?_)
       go_simp
       first
        |(refine hK _ ?_;clear hK K)
        |(apply Exists.intro;refine ⟨fun w1 hC=> ?_,hK _ ?_⟩;(focus ((first|(go_at_call 71;with_reducible exact cT HIN HOUT HK (fun w1 hk=>HAL.out w1 ⟨hk.1.1,hk.2⟩) w1 hC)|(exact rfl)|(obtain ⟨⟨hb1,⟨y0,y1⟩,⟨z0,z1,z2,z3,z4,z5⟩,z6⟩,⟨x0,x1,x2,x3,x4,x5⟩,_,x6⟩:=HOUT.out w1 hC;clear hC;go_simp;first|done|exact rfl));done));clear hK K))
     refine wpQuiet_nil ?_;intro wn hC;have HO:=aA (HOUT.out _ hC);clear hC HIN HOUT C;obtain ⟨⟨hb1,⟨y0,y1⟩,⟨z0,z1,z2,z3,z4,z5⟩,z6⟩,⟨x0,x1,x2,x3,x4,x5⟩,_,x6⟩:=HO.out
     go_wp2
     go_ret;exact ⟨Sc.aT HR.out.symm,hb1⟩
    |false=>
     have HR:=aA (HN.out hq);rw [hq] at HAL;clear HY HN hq
     go_wp2_with fail
     clear y0 y1 z0 z1 z2 z3 z4 z5 z6;refine aX HK (by kernel_rfl) (by kernel_rfl) (by first|exact HO.out|exact HK.out.drew HO.out) ?_;intro C HIN HOUT;clear HO
     repeat
      (with_reducible refine wpQuiet_step (fun K hK=> ?_)
       go_simp
       first
        |(refine hK _ ?_;clear hK K)
        |(apply Exists.intro;refine ⟨fun w1 hC=> ?_,hK _ ?_⟩;(focus ((first|(go_at_call 71;with_reducible exact cT HIN HOUT HK (fun w1 hk=>HAL.out w1 ⟨hk.1.1,hk.2⟩) w1 hC)|(exact rfl)|(obtain ⟨⟨hb1,⟨y0,y1⟩,⟨z0,z1,z2,z3,z4,z5⟩,z6⟩,⟨x0,x1,x2,x3,x4,x5⟩,_,x6⟩:=HOUT.out w1 hC;clear hC;go_simp;first|done|exact rfl));done));clear hK K))
     refine wpQuiet_nil ?_;intro wn hC;have HO:=aA (HOUT.out _ hC);clear hC HIN HOUT C;obtain ⟨⟨hb1,⟨y0,y1⟩,⟨z0,z1,z2,z3,z4,z5⟩,z6⟩,⟨x0,x1,x2,x3,x4,x5⟩,_,x6⟩:=HO.out
     go_wp2
     exact ⟨⟨k+1,by omega,by go_num,HO.out.1,HR.out⟩,by simp [intOf];omega⟩
  · have hke:k=G.length:=by omega
    subst hke;have HR:Hid (jM G ⟨nm,a,b,c,cx,[]⟩= -1):=fI fun j h1=>HALL.out j h1 h1
    obtain ⟨_,⟨y0,y1⟩,_⟩:=hb
    go_wp2
    go_ret;exact ⟨Sc.aT HR.out.symm,HB.out.1⟩
def inP (S:List Nat) (t:Int):Bool:=S.any fun x=>decide ((x:Int)=t)
theorem hI {S:List Nat} {t:Nat}:inP S (t:Int)=true↔t ∈ S:=by
 unfold inP;rw [List.any_eq_true]
 constructor
 · rintro ⟨x,hx,h⟩
   rw [decide_eq_true_eq] at h;obtain rfl:x=t:=by omega
   exact hx
 · exact fun h=>⟨t,h,by simp⟩
set_option maxHeartbeats 1600000 in
theorem qR {B q c:Nat} {S:List Nat} {t:Int} {w:World} (h:OwnN w B (.slice (some ⟨q,0,none⟩) S.length c) S) (hz:S.length≤9223372036854775807):
 Calls Tryz.prog 73 #[.slice (some ⟨q,0,none⟩) S.length c,.int .i64 t] w fun e w'=>e= .returned (.bool (inP S t))∧Below w.heap.size w w':=by
 have HE:Hid (∀ w1,Below w.heap.size w w1→∀ i (hi:i<S.length),InN w1 q i (S[i]:Int)):=fun w1 hb i hi=>(h.below hb).at hi
 clear h
 go_enter Tryz.func73,Tryz.ntmps73
 go_wp2_with fail
 go_loopw [5] (fun i wr=>∃ k:Nat,k≤S.length∧i= .int .i64 k∧Below w.heap.size w wr∧inP S t=inP (S.drop k) t) (fun i _=>S.length - (intOf i).toNat)
 case atStart=>exact ⟨0,Nat.zero_le _,rfl,Below.refl _ _,rfl⟩
 case round=>
  obtain ⟨k,hk,rfl,hb,hst⟩:=hrel;have HB:=aA hb
  by_cases hlt:k<S.length
  · obtain ⟨c0,c1⟩:=HE.out wr hb k hlt
    have HST:Hid (inP S t=(decide ((S[k]:Int)=t)||inP (S.drop (k+1)) t)):=by
     unfold Hid;rw [hst,List.drop_eq_getElem_cons hlt];rfl
    clear hst hb;generalize S[k]=x at*
    by_cases hx:(x:Int)=t
    · have HR:Hid (inP S t=true):=by unfold Hid;rw [HST.out,decide_eq_true hx];rfl
      have hx2:((x:Int)==t)=true:=by simp [hx]
      clear HST hx
      go_wp2
      go_ret;exact ⟨aC HR.out.symm,HB.out⟩
    · have HR:Hid (inP S t=inP (S.drop (k+1)) t):=by unfold Hid;rw [HST.out,decide_eq_false hx];rfl
      have hx2:((x:Int)==t)=false:=by simp [hx]
      clear HST hx
      go_wp2
      exact ⟨⟨k+1,by omega,by go_num,HB.out,HR.out⟩,by simp [intOf];omega⟩
  · have hke:k=S.length:=by omega
    subst hke;have HR:Hid (inP S t=false):=by unfold Hid;rw [hst,List.drop_length];rfl
    clear hst hb
    go_wp2
    go_ret;exact ⟨aC HR.out.symm,HB.out⟩
end Go.Proofs.YtpfemjlhklnfoaaGreatDoor
namespace Go.Proofs.YtpfemjlhklnfoaaGreatDoor
open Go.Shelf Go.RowKit Go.Lib Go.Sort
set_option maxRecDepth 100000
theorem vH:∀ a b:List UInt8,Op.bytesLess a b=bytesBefore a b
 |[],[]=>rfl
 |[],_::_=>rfl
 |_::_,[]=>rfl
 |a::r,b::s=>by
  unfold Op.bytesLess bytesBefore;rw [vH r s]
theorem xT (x y:Pn):ltQ x y=if x.nm.toList=y.nm.toList then gtV (vcQ y) (vcQ x) else Op.bytesLess x.nm.toList y.nm.toList:=by
 unfold ltQ nmQ;rw [ByteArray.toList_eq,ByteArray.toList_eq,vH]
 by_cases h:x.nm.data.toList=y.nm.data.toList
 · rw [if_pos h,decide_eq_true h,h,WideAt.bytes_irrefl,Bool.false_or,Bool.true_and]
 · rw [if_neg h,decide_eq_false h,Bool.false_and,Bool.or_false]
set_option maxHeartbeats 3200000 in
theorem mX (x y:Pn) (w:World):
 Calls Tryz.prog 79 #[.agg #[.string x.nm,.int .i64 x.a,.int .i64 x.b,.int .i64 x.c],.agg #[.string y.nm,.int .i64 y.a,.int .i64 y.b,.int .i64 y.c]] w fun e w'=>e= .returned (.bool (ltQ x y))∧Below w.heap.size w w':=by
 have HL:=aA (xT x y);have HG:Hid (gtV (vcQ y) (vcQ x)=decide (x.a<y.a∨x.a=y.a∧(x.b<y.b∨x.b=y.b∧x.c<y.c))):=rfl;have HB2:=aA (aM w (.cells #[.string x.nm,.int .i64 x.a,.int .i64 x.b,.int .i64 x.c] 80) (.cells #[.string y.nm,.int .i64 y.a,.int .i64 y.b,.int .i64 y.c] 80));generalize ltQ x y=r at*;generalize gtV (vcQ y) (vcQ x)=gv at*;obtain ⟨s,a,b,c⟩:=x;obtain ⟨t,a',b',c'⟩:=y
 simp only at HL HG HB2
 by_cases hn:s.toList=t.toList
 · have hn2:(s.toList==t.toList)=true:=by simp [hn]
   rw [if_pos hn] at HL
   by_cases ha:a=a'
   · by_cases hb:b=b'
     · have HR:Hid (r=decide (c<c')):=by
        unfold Hid;rw [HL.out,HG.out,decide_eq_decide];omega
       subst ha hb
       go_enter Tryz.func79,Tryz.ntmps79
       go_wp2
       go_ret;exact ⟨aC HR.out.symm,aB (aM _ _ _) (aM _ _ _)⟩
     · have HR:Hid (r=decide (b<b')):=by
        unfold Hid;rw [HL.out,HG.out,decide_eq_decide];omega
       have hb2:(b==b')=false:=by simp [hb]
       subst ha
       go_enter Tryz.func79,Tryz.ntmps79
       go_wp2
       go_ret;exact ⟨aC HR.out.symm,aB (aM _ _ _) (aM _ _ _)⟩
   · have HR:Hid (r=decide (a<a')):=by
      unfold Hid;rw [HL.out,HG.out,decide_eq_decide];omega
     have ha2:(a==a')=false:=by simp [ha]
     go_enter Tryz.func79,Tryz.ntmps79
     go_wp2
     go_ret;exact ⟨aC HR.out.symm,aB (aM _ _ _) (aM _ _ _)⟩
 · have hn2:(s.toList==t.toList)=false:=by simp [hn]
   rw [if_neg hn] at HL
   go_enter Tryz.func79,Tryz.ntmps79
   go_wp2
   go_ret;exact ⟨aC HL.out.symm,HB2.out⟩
def aY:List Pn→Pn→List Pn
 |[],x=>[x]
 |y::r,x=>if ltQ y x=true then y::aY r x else if bD y x=true then y::r else x::y::r
def cL:List Pn→Pn→Nat
 |[],_=>0
 |y::r,x=>if ltQ y x=true then cL r x+1 else 0
theorem qS:∀ (l:List Pn) (x:Pn),cL l x≤l.length
 |[],_=>Nat.le_refl _
 |y::r,x=>by
  unfold cL
  split
  · exact Nat.succ_le_succ (qS r x)
  · exact Nat.zero_le _
theorem iY:∀ (l:List Pn) (x:Pn) (k:Nat) (h:k<l.length),k<cL l x→ltQ l[k] x=true
 |y::r,x,0,_,hk=>by
  unfold cL at hk
  split at hk
  · assumption
  · cases hk
 |y::r,x,k+1,h,hk=>by
  unfold cL at hk
  split at hk
  · exact iY r x k (by simpa using h) (by omega)
  · cases hk
theorem qT:∀ (l:List Pn) (x:Pn) (h:cL l x<l.length),ltQ l[cL l x] x=false
 |y::r,x,h=>by
  by_cases hq:ltQ y x=true
  · have e:cL (y::r) x=cL r x+1:=by rw [cL,if_pos hq]
    have h2:cL r x<r.length:=by rw [e] at h;simpa using h
    have q:=qT r x h2;simp only [e];exact q
  · have e:cL (y::r) x=0:=by rw [cL,if_neg hq]
    simp only [e];exact Bool.eq_false_iff.2 hq
theorem qU:∀ (l:List Pn) (x:Pn),aY l x=if (l[cL l x]?).map (fun y=>bD y x)=some true then l else l.take (cL l x)++x::l.drop (cL l x)
 |[],x=>rfl
 |y::r,x=>by
  by_cases hq:ltQ y x=true
  · have e:cL (y::r) x=cL r x+1:=by rw [cL,if_pos hq]
    have ih:=qU r x;rw [e,aY,if_pos hq,ih,List.getElem?_cons_succ,List.take_succ_cons,List.drop_succ_cons]
    split
    · rfl
    · rfl
  · have e:cL (y::r) x=0:=by rw [cL,if_neg hq]
    rw [e,aY,if_neg hq,List.getElem?_cons_zero]
    simp
def mY (l:List Pn):Prop:=l.Pairwise fun x y=>ltQ x y=true
theorem iZ (x:Pn):ltQ x x=false:=by have:=zK.irrefl x;rwa [gK] at this
theorem gL {x y z:Pn} (h1:ltQ x y=true) (h2:ltQ y z=true):ltQ x z=true:=by
 have:=zK.trans x y z
 simp only [gK] at this;exact this h1 h2
theorem qV {x y:Pn} (h:ltQ y x=false) (hn:x≠y):ltQ x y=true:=by
 cases hq:ltQ x y with
 |true=>rfl
 |false=>exact absurd (sP hq h) hn
theorem fR:∀ (l:List Pn) (x z:Pn),z ∈ aY l x↔z ∈ l∨z=x
 |[],x,z=>by simp [aY]
 |y::r,x,z=>by
  rw [aY]
  split
  · rw [List.mem_cons,fR r x z,List.mem_cons]
    exact ⟨fun h=>h.elim (fun h=>Or.inl (Or.inl h)) fun h=>h.elim (fun h=>Or.inl (Or.inr h)) Or.inr,fun h=>h.elim (fun h=>h.elim Or.inl fun h=>Or.inr (Or.inl h)) fun h=>Or.inr (Or.inr h)⟩
  · split
    · rename_i h
      rw [bI] at h;exact ⟨Or.inl,fun q=>q.elim id fun q=>by rw [q,←h];exact List.mem_cons_self⟩
    · rw [List.mem_cons]
      exact ⟨fun h=>h.elim Or.inr Or.inl,fun h=>h.elim Or.inr Or.inl⟩
theorem mZ:∀ (l:List Pn) (x:Pn),mY l→mY (aY l x)
 |[],x,_=>List.pairwise_singleton _ _
 |y::r,x,h=>by
  obtain ⟨h1,h2⟩:=List.pairwise_cons.1 h;rw [aY]
  by_cases hq:ltQ y x=true
  · rw [if_pos hq]
    refine List.pairwise_cons.2 ⟨fun z hz=> ?_,mZ r x h2⟩
    rcases (fR r x z).1 hz with hz|rfl
    · exact h1 z hz
    · exact hq
  · rw [if_neg hq]
    by_cases he:bD y x=true
    · rw [if_pos he]
      exact h
    · rw [if_neg he]
      have hxy:ltQ x y=true:=qV (Bool.eq_false_iff.2 hq) fun e=>he (bI.2 e.symm)
      refine List.pairwise_cons.2 ⟨fun z hz=> ?_,h⟩
      rcases List.mem_cons.1 hz with rfl|hz
      · exact hxy
      · exact gL hxy (h1 z hz)
def dY (l:List Pn):List Pn:=l.foldl aY []
theorem sT (l:List Pn) (x:Pn):dY (l++[x])=aY (dY l) x:=by
 unfold dY;rw [List.foldl_append];rfl
theorem jZ:∀ (l m:List Pn),mY m→mY (l.foldl aY m)∧∀ z,z ∈ l.foldl aY m↔z ∈ m∨z ∈ l
 |[],m,h=>⟨h,fun z=>by simp⟩
 |x::r,m,h=>by
  obtain ⟨h1,h2⟩:=jZ r (aY m x) (mZ m x h);refine ⟨h1,fun z=> ?_⟩;rw [List.foldl_cons,h2 z,fR,List.mem_cons];exact ⟨fun h=>h.elim (fun h=>h.elim Or.inl fun h=>Or.inr (Or.inl h)) fun h=>Or.inr (Or.inr h),fun h=>h.elim (fun h=>Or.inl (Or.inl h)) fun h=>h.elim (fun h=>Or.inl (Or.inr h)) Or.inr⟩
theorem xU {l m:List Pn} (h1:mY l) (h2:mY m) (hm:∀ z,z ∈ l↔z ∈ m):l=m:=by
 have nd:∀ {l:List Pn},mY l→l.Nodup:=fun h=>h.imp fun {a b} q e=>by subst e;rw [iZ] at q;cases q
 refine List.Perm.eq_of_pairwise (le:=fun a b=>ltQ a b=true) (fun a b _ _ q1 q2=> ?_) h1 h2 ((List.perm_ext_iff_of_nodup (nd h1) (nd h2)).2 hm);have q:=gL q1 q2;rw [iZ] at q;cases q
theorem qW:∀ (r:List Pn) (p:Pn),((p::r).Pairwise fun x y=>ltQ y x=false)→mY (p::dqr p r)∧∀ z,z ∈ p::dqr p r↔z ∈ p::r
 |[],p,_=>⟨List.pairwise_singleton _ _,fun z=>Iff.rfl⟩
 |y::r,p,h=>by
  obtain ⟨h1,h2⟩:=List.pairwise_cons.1 h;obtain ⟨i1,i2⟩:=qW r y h2;rw [dqr]
  by_cases he:bD y p=true
  · rw [if_pos he]
    have e:=bI.1 he;subst e;refine ⟨i1,fun z=> ?_⟩;rw [i2 z]
    simp
  · rw [if_neg he]
    have hpy:ltQ p y=true:=qV (h1 y List.mem_cons_self) fun e=>he (bI.2 e.symm)
    refine ⟨List.pairwise_cons.2 ⟨fun z hz=> ?_,i1⟩,fun z=> ?_⟩
    · rcases List.mem_cons.1 hz with rfl|hz
      · exact hpy
      · exact gL hpy ((List.pairwise_cons.1 i1).1 z hz)
    · rw [List.mem_cons,i2 z,List.mem_cons (b:=p)]
theorem vI {l us:List Pn} (hp:us.Perm l) (hs:us.Pairwise fun x y=>ltQ y x=false):dq us=dY l:=by
 obtain ⟨a1,a2⟩:=jZ l [] List.Pairwise.nil;cases us with
 |nil=>
  rw [(List.nil_perm.1 hp)];rfl
 |cons p r=>
  obtain ⟨b1,b2⟩:=qW r p hs;refine xU b1 a1 fun z=> ?_
  show z ∈ p::dqr p r↔_;unfold dY;rw [b2 z,a2 z,hp.mem_iff]
  simp
end Go.Proofs.YtpfemjlhklnfoaaGreatDoor
namespace Go.Proofs.YtpfemjlhklnfoaaGreatDoor
open Go.RowKit Go.Maps Go.WideMaps
set_option maxRecDepth 100000
theorem fS (w:World) (ad:Option Addr) (cap:Nat):EdgesAt w (.slice ad 0 cap) []:=⟨ad,cap,rfl,Nat.zero_le _,Or.inl rfl⟩
theorem hJ (w:World) (ad:Option Addr) (cap:Nat):PinsAt w (.slice ad 0 cap) []:=⟨ad,cap,rfl,Nat.zero_le _,Or.inl rfl⟩
def ndB (s:ByteArray) (a b c:Int):Nd:=⟨s,a,b,c,[],[]⟩
set_option maxHeartbeats 1600000 in
theorem lA {s:ByteArray} {a b c:Int} {ac ae ao:Option Addr} {cc ce co:Nat} {w:World}:
 Calls Tryz.prog 114 #[.agg #[.string s,.int .i64 a,.int .i64 b,.int .i64 c,.slice ac 0 cc,.slice ae 0 ce],.slice ao 0 co] w fun e w'=>e= .returned (.bool true)∧Below w.heap.size w w':=by
 have hmm:= @run_makeMap Tryz.prog;have HC:Hid (∀ w1 u,Calls Tryz.prog 167 #[.slice ae 0 ce,.func (.func 168) #[] #[u]] w1 fun e w'=>e= .returned (.bool false)∧Below w1.heap.size w1 w'):=fun w1 u=>wS (L:=[]) (p:=fun _=>true) (fS w1 ae ce) (by simp) (fun w2 _ x hx=>by cases hx)
 have HB:Hid (∀ u:Value,(Below w.heap.size w (((w.alloc (.cells #[.string s,.int .i64 a,.int .i64 b,.int .i64 c,.slice ac 0 cc,.slice ae 0 ce] 67)).alloc (.map #[] 0)).alloc (.cells #[u] 210))∧BxNd (((w.alloc (.cells #[.string s,.int .i64 a,.int .i64 b,.int .i64 c,.slice ac 0 cc,.slice ae 0 ce] 67)).alloc (.map #[] 0)).alloc (.cells #[u] 210)) w.heap.size (ndB s a b c) (.slice ac 0 cc) (.slice ae 0 ce))):=fun u=>
  ⟨tR _ _ _ _,aJ _ _ _ _ _ _ (aJ _ _ _ _ _ _ (BxNd.new rfl (ndB s a b c) _ _) (aD _ _)) (aD _ _)⟩
 go_enter Tryz.func114,Tryz.ntmps114
 go_wp2_with fail
 go_loopw [13] (fun i wr=>i= .int .i64 0∧Below w.heap.size w wr∧BxNd wr w.heap.size (ndB s a b c) (.slice ac 0 cc) (.slice ae 0 ce)) (fun _ _=>0)
 case atStart=>exact ⟨rfl,HB.out _⟩
 case round=>
  obtain ⟨rfl,hb,⟨y0,y1,y2,y3,y4,y5⟩,y6⟩:=hrel;have HB1:Hid (Below w.heap.size w wr∧BxNd wr w.heap.size (ndB s a b c) (.slice ac 0 cc) (.slice ae 0 ce)):=⟨hb,⟨y0,y1,y2,y3,y4,y5⟩,y6⟩;clear hb HB
  go_wp2_with fail
  clear y0 y1 y2 y3 y4 y5 y6
  go_loopw [26] (fun i wr=>i= .int .i64 0∧Below w.heap.size w wr∧BxNd wr w.heap.size (ndB s a b c) (.slice ac 0 cc) (.slice ae 0 ce)) (fun _ _=>0)
  case atStart=>exact ⟨rfl,HB1.out⟩
  case round=>
   clear HB1;obtain ⟨rfl,hb,⟨y0,y1,y2,y3,y4,y5⟩,y6⟩:=hrel;have HB2:=aA hb;clear hb
   go_wp2_with (go_at_call 167;refine (HC.out _ _).mono ?_;rintro e w1 ⟨rfl,ok⟩)
   go_ret;exact ⟨rfl,aB HB2.out ok⟩
set_option maxHeartbeats 1600000 in
theorem sU {al ao:Option Addr} {cl co:Nat} {w:World}:
 Calls Tryz.prog 115 #[.slice ao 0 co,.slice al 0 cl] w fun e w'=>e= .returned (.bool true)∧Below w.heap.size w w':=by
 have hmm:= @run_makeMap Tryz.prog;have HB:=aA (aD w (.map #[] 0))
 go_enter Tryz.func115,Tryz.ntmps115
 go_wp2_with fail
 go_loopw [15] (fun i wr=>i= .int .i64 0∧Below w.heap.size w wr) (fun _ _=>0)
 case atStart=>exact ⟨rfl,HB.out⟩
 case round=>
  clear HB;obtain ⟨rfl,hb⟩:=hrel;have HB1:=aA hb;clear hb
  go_wp2_with fail
  go_loopw [27] (fun i wr=>i= .int .i64 0∧Below w.heap.size w wr) (fun _ _=>0)
  case atStart=>exact ⟨rfl,HB1.out⟩
  case round=>
   clear HB1;obtain ⟨rfl,hb⟩:=hrel;have HB2:=aA hb;clear hb
   go_wp2
   go_ret;exact ⟨rfl,HB2.out⟩
set_option maxHeartbeats 1600000 in
theorem jP {s:ByteArray} {a b c:Int} {ac ae al:Option Addr} {cc ce kl cl:Nat} {w:World}:
 Calls Tryz.prog 116 #[.agg #[.string s,.int .i64 a,.int .i64 b,.int .i64 c,.slice ac 0 cc,.slice ae 0 ce],.slice al kl cl] w fun e w'=>e= .returned (.bool true)∧Below w.heap.size w w':=by
 have HC:Hid (∀ w1 u,Calls Tryz.prog 169 #[.slice ac 0 cc,.func (.func 170) #[] #[u]] w1 fun e w'=>e= .returned (.bool false)∧Below w1.heap.size w1 w'):=fun w1 u=>wU (L:=[]) (p:=fun _=>true) (hJ w1 ac cc) (by simp) (fun w2 _ x hx=>by cases hx)
 have HB:=aA (aM w (.cells #[.string s,.int .i64 a,.int .i64 b,.int .i64 c,.slice ac 0 cc,.slice ae 0 ce] 67) (.cells #[.slice al kl cl] 40))
 go_enter Tryz.func116,Tryz.ntmps116
 go_wp2_with (go_at_call 169;refine (HC.out _ _).mono ?_;rintro e w1 ⟨rfl,ok⟩)
 go_ret;exact ⟨rfl,aB HB.out ok⟩
def BxS (w:World) (N:Nat) (v:Value) (p:Option Addr):Prop:=(w.cell? ⟨N,0,none⟩=some v∧w.cell? ⟨N,1,none⟩=some (.pointer p)∧w.cell? ⟨N,2,none⟩=some (.slice none 0 0)∧w.cell? ⟨N,3,none⟩=some (.slice none 0 0)∧w.cell? ⟨N,4,none⟩=some (.slice none 0 0)∧w.cell? ⟨N,5,none⟩=some (.slice none 0 0)∧w.cell? ⟨N,6,none⟩=some (.bool true))∧N<w.heap.size
theorem cQ (N:Nat) (v:Value) (p:Option Addr):KeepP fun w1=>BxS w1 N v p:=fun w w' h hb=>by
 obtain ⟨⟨h0,h1,h2,h3,h4,h5,h6⟩,hg⟩:=h;have q:∀ i,w'.cell? ⟨N,i,none⟩=w.cell? ⟨N,i,none⟩:=fun i=>hb.cell (p:=⟨N,i,none⟩) hg
 exact ⟨⟨by rw [q];exact h0,by rw [q];exact h1,by rw [q];exact h2,by rw [q];exact h3,by rw [q];exact h4,by rw [q];exact h5,by rw [q];exact h6⟩,Nat.lt_of_lt_of_le hg hb.size⟩
theorem BxS.new {w:World} {N:Nat} (hN:w.heap.size=N) (v:Value) (p:Option Addr):BxS (w.alloc (.cells #[v,.pointer p,.slice none 0 0,.slice none 0 0,.slice none 0 0,.slice none 0 0,.bool true] 109)) N v p:=by
 subst hN;refine ⟨⟨?_,?_,?_,?_,?_,?_,?_⟩,?_⟩<;>simp
set_option maxHeartbeats 1600000 in
theorem zN {s:ByteArray} {a b c:Int} {g o n cap:Nat} {p:Option Addr} {vc:Value} {ae:Option Addr} {ce:Nat} {w:World} (hx:NdIn w g o (ndB s a b c) vc (.slice ae 0 ce)) (hn:0<n):
 Calls Tryz.prog 113 #[.agg #[.slice (some ⟨g,o,none⟩) n cap,.pointer p,.slice none 0 0,.slice none 0 0,.slice none 0 0,.slice none 0 0,.bool true],.int .i64 0] w fun e w'=>e= .returned (.slice none 0 0)∧Below w.heap.size w w':=by
 have HB:Hid (Below w.heap.size w (w.alloc (.cells #[.slice (some ⟨g,o,none⟩) n cap,.pointer p,.slice none 0 0,.slice none 0 0,.slice none 0 0,.slice none 0 0,.bool true] 109))):=aD _ _;have HX:=aA (hx.below (aD w (.cells #[.slice (some ⟨g,o,none⟩) n cap,.pointer p,.slice none 0 0,.slice none 0 0,.slice none 0 0,.slice none 0 0,.bool true] 109)));obtain ⟨⟨x0,x1,x2,x3,x4,x5⟩,_,x6⟩:=HX.out;have hni:(0:Int)<(n:Int):=by omega
 clear hx HX
 go_enter Tryz.func113,Tryz.ntmps113
 go_wp2_with fail
 clear x0 x1 x2 x3 x4 x5 x6
 go_loopw [5,15] (fun v5 i wr=>v5= .slice none 0 0∧i= .int .i64 0∧Below w.heap.size w wr) (fun _ _ _=>0)
 case atStart=>exact ⟨rfl,rfl,HB.out⟩
 case round=>
  clear HB;obtain ⟨rfl,rfl,hb⟩:=hrel;have HB1:=aA hb;clear hb
  go_wp2
  go_ret;exact ⟨rfl,HB1.out⟩
end Go.Proofs.YtpfemjlhklnfoaaGreatDoor
namespace Go.Proofs.YtpfemjlhklnfoaaGreatDoor
open Go.RowKit
set_option maxRecDepth 100000
theorem nD:∀ {a b c:List UInt8},Op.bytesLess a b=true→Op.bytesLess b c=true→Op.bytesLess a c=true
 |_,[],_,h,_=>by cases ‹List UInt8› <;>simp [Op.bytesLess] at h
 |_,_::_,[],_,h=>by simp [Op.bytesLess] at h
 |[],_::_,_::_,_,_=>rfl
 |x::a,y::b,z::c,h1,h2=>by
  have e1:(decide (x<y)||(x==y&&Op.bytesLess a b))=true:=h1;have e2:(decide (y<z)||(y==z&&Op.bytesLess b c))=true:=h2;show (decide (x<z)||(x==z&&Op.bytesLess a c))=true;simp only [Bool.or_eq_true,decide_eq_true_eq,Bool.and_eq_true,beq_iff_eq] at e1 e2 ⊢
  rcases e1 with h|⟨rfl,h⟩
  · rcases e2 with k|⟨rfl,_⟩
    · exact Or.inl (UInt8.lt_trans h k)
    · exact Or.inl h
  · rcases e2 with k|⟨rfl,k⟩
    · exact Or.inl k
    · exact Or.inr ⟨rfl,nD h k⟩
end Go.Proofs.YtpfemjlhklnfoaaGreatDoor
namespace Go.Proofs.YtpfemjlhklnfoaaGreatDoor
open Go.RowKit Go.Maps Go.WideMaps
set_option maxRecDepth 100000
theorem nE:∀ (a b:List UInt8),Op.bytesLess a b=false→a≠b→Op.bytesLess b a=true
 |[],[],_,h=>absurd rfl h
 |[],_::_,h,_=>by cases h
 |_::_,[],_,_=>rfl
 |x::a,y::b,h,hn=>by
  have h':(decide (x<y)||(x==y&&Op.bytesLess a b))=false:=h;show (decide (y<x)||(y==x&&Op.bytesLess b a))=true;rw [Bool.or_eq_false_iff,decide_eq_false_iff_not] at h';obtain ⟨h1,h2⟩:=h';rw [Bool.or_eq_true,decide_eq_true_eq]
  by_cases e:x=y
  · subst e
    right
    rw [beq_self_eq_true,Bool.true_and] at h2 ⊢;exact nE a b h2 (fun q=>hn (by rw [q]))
  · left
    rcases UInt8.lt_or_lt_of_ne e with q|q
    · exact absurd q h1
    · exact q
theorem kA:∀ (a b:List UInt8),Op.bytesLess a b=bytesBefore a b
 |[],[]=>rfl
 |[],_::_=>rfl
 |_::_,[]=>rfl
 |x::a,y::b=>by
  show (decide (x<y)||(x==y&&Op.bytesLess a b))=(decide (x<y)||(x==y&&bytesBefore a b));rw [kA a b]
theorem pM (s t:ByteArray):ltS s t=bytesBefore s.data.toList t.data.toList:=by
 unfold ltS;rw [kA,ByteArray.toList_eq,ByteArray.toList_eq]
theorem sV {s t:ByteArray} (h:ltS s t=false) (hn:s≠t):ltS t s=true:=nE _ _ h (fun e=>hn (bM e))
theorem sW {s t u:ByteArray} (h:ltS s t=true) (h':ltS t u=true):ltS s u=true:=nD h h'
structure Wt where
 nm:ByteArray
 kd:Int
 ad:Option Addr
 ln:Nat
 cp:Nat
 tg:Nat
def dA (x:Wt):List Value:=[.string x.nm,.int .i64 x.kd,.slice x.ad x.ln x.cp]
theorem vJ:(Tryz.prog.info? 161).map (fun i=>(i.zero,i.size,i.bytes))=some (some (.agg #[.string ⟨#[]⟩,.int .i64 0,.slice none 0 0]),3,48):=by kernel_rfl
def RowW (w:World) (B g n cap:Nat) (xs:List Wt):Prop:=xs.length=n∧w.ownsRow B 161 3 (.slice (some ⟨g,0,none⟩) n cap) n (xs.flatMap dA)
theorem qX:∀ (l:List Wt) (i:Nat) (x:Wt),l[i]? =some x→(l.flatMap dA)[i*3]? =some (.string x.nm)∧(l.flatMap dA)[i*3+1]? =some (.int .i64 x.kd)∧(l.flatMap dA)[i*3+2]? =some (.slice x.ad x.ln x.cp)
 |[],i,x,h=>by simp at h
 |y::l,0,x,h=>by
  simp at h
  subst h;exact ⟨rfl,rfl,rfl⟩
 |y::l,i+1,x,h=>by
  obtain ⟨h0,h1,h2⟩:=qX l i x (by simpa using h);rw [List.flatMap_cons];have e:∀ r,(i+1)*3+r=(dA y).length+(i*3+r):=fun r=>by show _=3+_;omega
  refine ⟨?_,?_,?_⟩
  · have e0:(i+1)*3=(dA y).length+i*3:=by show _=3+_;omega
    rw [e0,List.getElem?_append_right (Nat.le_add_right _ _),Nat.add_sub_cancel_left];exact h0
  · rw [e 1,List.getElem?_append_right (Nat.le_add_right _ _),Nat.add_sub_cancel_left]
    exact h1
  · rw [e 2,List.getElem?_append_right (Nat.le_add_right _ _),Nat.add_sub_cancel_left]
    exact h2
theorem nF:∀ (l:List Wt) (i:Nat) (y:Wt),i<l.length→((((l.flatMap dA).set (i*3) (.string y.nm)).set (i*3+1) (.int .i64 y.kd)).set (i*3+2) (.slice y.ad y.ln y.cp))=(l.set i y).flatMap dA
 |[],i,y,h=>by simp at h
 |x::l,0,y,_=>by
  rw [List.set_cons_zero,List.flatMap_cons,List.flatMap_cons];rfl
 |x::l,i+1,y,h=>by
  rw [List.set_cons_succ,List.flatMap_cons,List.flatMap_cons,←nF l i y (by simpa using h)];have e:∀ r,(i+1)*3+r=(dA x).length+(i*3+r):=fun r=>by show _=3+_;omega
  have e0:(i+1)*3=(dA x).length+i*3:=by show _=3+_;omega
  rw [e 2,e 1,e0];rw [List.set_append_right _ _ (Nat.le_add_right _ _),List.set_append_right _ _ (Nat.le_add_right _ _),List.set_append_right _ _ (Nat.le_add_right _ _)];simp only [Nat.add_sub_cancel_left]
theorem RowW.cells {w:World} {B g n cap:Nat} {xs:List Wt} (h:RowW w B g n cap xs) {i:Nat} {x:Wt} (hx:xs[i]? =some x):w.cell? ⟨g,i*3,none⟩=some (.string x.nm)∧w.cell? ⟨g,i*3+1,none⟩=some (.int .i64 x.kd)∧w.cell? ⟨g,i*3+2,none⟩=some (.slice x.ad x.ln x.cp):=by
 have hi:i<n:=by rw [←h.1];exact (List.getElem?_eq_some_iff.1 hx).1
 obtain ⟨h0,h1,h2⟩:=qX xs i x hx;exact ⟨(World.ownsRow.cellAt h.2 _ (by omega)).trans h0,(World.ownsRow.cellAt h.2 _ (by omega)).trans h1,(World.ownsRow.cellAt h.2 _ (by omega)).trans h2⟩
theorem RowW.lt {w:World} {B g n cap:Nat} {xs:List Wt} (h:RowW w B g n cap xs):B≤g∧g<w.heap.size:=World.ownsRow.lt h.2 g rfl
theorem RowW.below {w w':World} {B g n cap:Nat} {xs:List Wt} (h:RowW w B g n cap xs) (hb:Below w.heap.size w w'):RowW w' B g n cap xs:=⟨h.1,dE h.2 hb⟩
theorem RowW.put {w:World} {B g n cap:Nat} {xs:List Wt} (h:RowW w B g n cap xs) {i:Nat} (hi:i<n) (y:Wt):RowW (((w.setCell ⟨g,i*3,none⟩ (.string y.nm)).setCell ⟨g,i*3+1,none⟩ (.int .i64 y.kd)).setCell ⟨g,i*3+2,none⟩ (.slice y.ad y.ln y.cp)) B g n cap (xs.set i y)∧w.grownBy (((w.setCell ⟨g,i*3,none⟩ (.string y.nm)).setCell ⟨g,i*3+1,none⟩ (.int .i64 y.kd)).setCell ⟨g,i*3+2,none⟩ (.slice y.ad y.ln y.cp)) (some g):=by
 obtain ⟨a1,b1⟩:=h.2.stored (i*3) (.string y.nm);obtain ⟨a2,b2⟩:=a1.stored (i*3+1) (.int .i64 y.kd);obtain ⟨a3,b3⟩:=a2.stored (i*3+2) (.slice y.ad y.ln y.cp);rw [nF xs i y (by rw [h.1];exact hi)] at a3;exact ⟨⟨by rw [List.length_set];exact h.1,a3⟩,(b1.trans b2).trans b3⟩
def SW (w0:World) (B g n cap:Nat) (xs:List Wt) (w:World):Prop:=RowW w B g n cap xs∧w0.grownBy w (some g)
theorem pN {w0 w w':World} {r:Option Nat} (h:w0.grownBy w r) (hb:Below w.heap.size w w'):w0.grownBy w' r:=⟨hb.os.trans h.os,hb.tape.trans h.tape,hb.output.trans h.output,Nat.le_trans h.size hb.size,fun k hk hn=>(hb.block k (Nat.lt_of_lt_of_le hk h.size)).trans (h.block k hk hn)⟩
theorem dB (w0:World) (B g n cap:Nat) (xs:List Wt):KeepP (SW w0 B g n cap xs):=fun _ _ h hb=>⟨h.1.below hb,pN h.2 hb⟩
theorem SW.put {w0 w:World} {B g n cap:Nat} {xs:List Wt} (h:SW w0 B g n cap xs w) {i j:Nat} {x y:Wt} (hi:i<n) (hj:j<n):SW w0 B g n cap ((xs.set i y).set j x) (((((((w.setCell ⟨g,i*3,none⟩ (.string y.nm)).setCell ⟨g,i*3+1,none⟩ (.int .i64 y.kd)).setCell ⟨g,i*3+2,none⟩ (.slice y.ad y.ln y.cp))).setCell ⟨g,j*3,none⟩ (.string x.nm)).setCell ⟨g,j*3+1,none⟩ (.int .i64 x.kd)).setCell ⟨g,j*3+2,none⟩ (.slice x.ad x.ln x.cp)):=by
 obtain ⟨a1,b1⟩:=h.1.put hi y;obtain ⟨a2,b2⟩:=a1.put hj x;exact ⟨a2,(h.2.trans b1).trans b2⟩
def ltT (x y:Wt):Prop:=ltS x.nm y.nm=true∨(x.nm=y.nm∧x.tg<y.tg)
theorem dI {x y z:Wt} (h:ltT x y) (h':ltT y z):ltT x z:=by
 rcases h with h|⟨h1,h2⟩
 · rcases h' with h'|⟨h3,_⟩
   · exact Or.inl (sW h h')
   · exact Or.inl (h3 ▸ h)
 · rcases h' with h'|⟨h3,h4⟩
   · exact Or.inl (h1 ▸ h')
   · exact Or.inr ⟨h1.trans h3,Nat.lt_trans h2 h4⟩
theorem hQ {x y:Wt} (h:ltS x.nm y.nm=false) (ht:y.tg<x.tg):ltT y x:=by
 by_cases e:x.nm=y.nm
 · exact Or.inr ⟨e.symm,ht⟩
 · exact Or.inl (sV h e)
theorem cY {S1 S2:List Wt} {x:Wt} (h:(S1++S2).Pairwise ltT) (h2:∀ y ∈ S2,ltT x y) (h1:S1=[]∨∃ S0 y,S1=S0++[y]∧ltT y x):(S1++x::S2).Pairwise ltT:=by
 rw [List.pairwise_append] at h ⊢;refine ⟨h.1,List.pairwise_cons.2 ⟨h2,h.2.1⟩,fun a ha b hb=> ?_⟩
 rcases List.mem_cons.1 hb with rfl|hb
 · rcases h1 with rfl|⟨S0,y,rfl,hy⟩
   · cases ha
   · rcases List.mem_append.1 ha with ha|ha
     · exact dI ((List.pairwise_append.1 h.1).2.2 a ha y (by simp)) hy
     · rw [List.mem_singleton] at ha
       rw [ha];exact hy
 · exact h.2.2 a ha b hb
theorem kB {α:Type} (A B:List α) (x y:α):((A++y::x::B).set (A.length+1) y).set A.length x=A++x::y::B:=by
 rw [List.set_append_right _ _ (by omega),List.set_append_right _ _ (Nat.le_refl _)]
 simp
theorem dZ (x y:Wt):∃ r:Int,(r<0↔ltS x.nm y.nm=true)∧∀ W,Calls Tryz.prog 242 #[.agg #[.string x.nm,.int .i64 x.kd,.slice x.ad x.ln x.cp],.agg #[.string y.nm,.int .i64 y.kd,.slice y.ad y.ln y.cp]] W fun e w'=>e= .returned (.int .i64 r)∧Below W.heap.size W w':=by
 refine ⟨vE ⟨x.nm,0,0,0⟩ ⟨y.nm,0,0,0⟩,?_,fun W=> ?_⟩
 · have e:=zL ⟨x.nm,0,0,0⟩ ⟨y.nm,0,0,0⟩
   rw [show ltP ⟨x.nm,0,0,0⟩ ⟨y.nm,0,0,0⟩=ltS x.nm y.nm from (pM x.nm y.nm).symm] at e;unfold ltOf at e;rw [←e];exact (decide_eq_true_iff (p:=_<0)).symm
 · have HSC:Hid (∀ W,Calls Tryz.prog 105 #[.string x.nm,.string y.nm] W fun e w'=>e= .returned (.int .i64 (vE ⟨x.nm,0,0,0⟩ ⟨y.nm,0,0,0⟩))∧w'=W):=fun W=>Tryz.strings_Compare _ _ W
   generalize vE ⟨x.nm,0,0,0⟩ ⟨y.nm,0,0,0⟩=r at*
   go_enter Tryz.func242,Tryz.ntmps242
   go_wp2_with (go_at_call 105;refine (HSC.out _).mono ?_;rintro e w1 ⟨rfl,rfl⟩)
   go_ret;exact ⟨rfl,aM _ _ _⟩
def Wt.rs (x:Wt):Value:= .slice x.ad x.ln x.cp
def ApartR (x y:Wt):Prop:=∀ g,x.rs.ownBlock=some g→y.rs.ownBlock≠some g
theorem ApartR.symm {x y:Wt} (h:ApartR x y):ApartR y x:=fun g hy hx=>h g hx hy
def OwnWt (w:World) (B:Nat) (v:Value) (ps:List (Wt×List Sp)):Prop:=w.ownsRow B 161 3 v ps.length ((ps.map (·.1)).flatMap dA)∧(∀ p ∈ ps,OwnS w B p.1.rs p.2)∧ps.Pairwise fun p q=>ApartR p.1 q.1
theorem OwnWt.nil (w:World) (B:Nat):OwnWt w B (.slice none 0 0) []:=⟨⟨rfl,Or.inl ⟨rfl,rfl⟩⟩,fun p hp=>(by cases hp),List.Pairwise.nil⟩
theorem OwnWt.below {w w':World} {B:Nat} {v:Value} {ps:List (Wt×List Sp)} (h:OwnWt w B v ps) (hb:Below w.heap.size w w'):OwnWt w' B v ps:=⟨dE h.1 hb,fun p hp=>(h.2.1 p hp).below hb,h.2.2⟩
theorem OwnWt.base {w:World} {B C:Nat} {v:Value} {ps:List (Wt×List Sp)} (h:OwnWt w B v ps) (hc:C≤B):OwnWt w C v ps:=⟨dF h.1 hc,fun p hp=>(h.2.1 p hp).base hc,h.2.2⟩
theorem OwnWt.len {w:World} {B:Nat} {v:Value} {ps:List (Wt×List Sp)} (h:OwnWt w B v ps):∃ ad cap,v= .slice ad ps.length cap:=by
 rcases h.1.2 with ⟨rfl,hn⟩|⟨g,cap,cur,rfl,_⟩
 · exact ⟨none,0,by rw [hn]⟩
 · exact ⟨_,cap,rfl⟩
def dM (O:List Dp) (k:Int) (t:Nat) (ds:List Dp) (ps:List (Wt×List Sp)):Prop:=ps.length=ds.length∧∀ i p,ps[i]? =some p→∃ d,ds[i]? =some d∧p.1.nm=d.nm∧p.1.kd=k∧p.1.tg=t+i∧p.2=bJ O d
theorem sX {O:List Dp} {k:Int} {t:Nat} {ds:List Dp} {ps:List (Wt×List Sp)} {d:Dp} {p:Wt×List Sp} (h:dM O k t ds ps) (h1:p.1.nm=d.nm) (h2:p.1.kd=k) (h3:p.1.tg=t+ds.length) (h4:p.2=bJ O d):dM O k t (ds++[d]) (ps++[p]):=by
 refine ⟨by rw [List.length_append,List.length_append,h.1];rfl,fun i q hq=> ?_⟩
 by_cases hi:i<ps.length
 · rw [List.getElem?_append_left hi] at hq
   obtain ⟨e,h5,h6⟩:=h.2 i q hq;exact ⟨e,by rw [List.getElem?_append_left (by rw [←h.1];exact hi)];exact h5,h6⟩
 · rw [List.getElem?_append_right (by omega)] at hq
   have hz:i - ps.length=0:=by
    have:=(List.getElem?_eq_some_iff.1 hq).1
    rw [List.length_singleton] at this;omega
   rw [hz] at hq;cases hq;have e:i=ds.length:=by rw [←h.1];omega
   subst e;exact ⟨d,by rw [List.getElem?_append_right (Nat.le_refl _),Nat.sub_self];rfl,h1,h2,h3,h4⟩
theorem OwnWt.snoc {w w1:World} {B:Nat} {v v1:Value} {ps:List (Wt×List Sp)} {p:Wt×List Sp} (h:OwnWt w B v ps) (hs:OwnS w B p.1.rs p.2) (hn:∀ q ∈ ps,ApartR q.1 p.1) (ho:w1.ownsRow B 161 3 v1 (ps.length+1) ((ps.map (·.1)).flatMap dA++dA p.1)) (hg:w.grownBy w1 v.ownBlock):OwnWt w1 B v1 (ps++[p]):=by
 have hk:∀ {u:Value} {L:List Sp},OwnS w B u L→OwnS w1 B u L:=fun {u L} hu=>by
  refine hu.of_block fun g hgu=>hg.block g (hu.lt hgu).1 fun e=> ?_
  exact zF hu h.1 (by decide) hgu e.symm
 refine ⟨by rw [List.length_append,List.map_append,List.flatMap_append];simpa using ho,fun q hq=> ?_,?_⟩
 · rcases List.mem_append.1 hq with hq|hq
   · exact hk (h.2.1 q hq)
   · rw [List.mem_singleton.1 hq]
     exact hk hs
 · rw [List.pairwise_append]
   refine ⟨h.2.2,List.pairwise_singleton _ _,fun a ha b hb=> ?_⟩;rw [List.mem_singleton.1 hb];exact hn a ha
theorem kC {w w6:World} {B:Nat} {ps:List (Wt×List Sp)} {v:Value} (h:OwnWt w B v ps) {x:Wt} {L:List Sp} (hx:OwnS w6 w.heap.size x.rs L):∀ q ∈ ps,ApartR q.1 x:=fun q hq=>by
 intro g hb e;have h1:=((h.2.1 q hq).lt hb).1;have h2:=(hx.lt e).2;omega
set_option maxHeartbeats 12800000 in
theorem dN {w:World} {O:List Dp} {v4:Value} {M n:Nat} (h:DepsAt w v4 O) (hm:SmAt w M n (.int .i64 0) (aG O)) {ds:List Dp} {vd:Value} (hp:DepsAt w vd ds) (hfit:mP O ds) (kd:Int) (t:Nat):Calls Tryz.prog 214 #[.agg #[v4,.map (some M)],vd,.int .i64 kd] w fun e w'=>∃ v,e= .returned v∧∃ ps,OwnWt w' w.heap.size v ps∧dM O kd t ds ps∧Below w.heap.size w w':=by
 obtain ⟨ad,cap,rfl,hcap,_⟩:=h.el;obtain ⟨p2,r2,rfl,_,_⟩:=hp.el;have HFD:=aA hfit.2;have hfl:=hfit.1;have HCL:Hid (∀ (W:World) (u:Value) (R:List Sp),SpansC W u R→R.length*48≤140737488355328→Calls Tryz.prog 138 #[u] W fun e w'=>∃ v',e= .returned v'∧OwnS w' W.heap.size v' R∧Below W.heap.size W w'):=fun W u R hu hr=>pD hu hr
 have HSC:Hid (∀ (s:ByteArray) (W:World),s.size≤281474976710656→Calls Tryz.prog 78 #[.string s] W fun e w'=>e= .returned (.string s)∧Below W.heap.size W w'):=fun s W hs=>fL s hs W
 have HOV2:Hid (Below w.heap.size w (w.alloc (.cells #[.slice ad O.length cap,.map (some M)] 249))):=aD _ _;have HSW:Hid (SmAt (w.alloc (.cells #[.slice ad O.length cap,.map (some M)] 249)) M n (.int .i64 0) (aG O)):=hm.below (aD _ _);have k0:(w.alloc (.cells #[.slice ad O.length cap,.map (some M)] 249)).cell? ⟨w.heap.size,0,none⟩=some (.slice ad O.length cap):=by simp
 have k1:(w.alloc (.cells #[.slice ad O.length cap,.map (some M)] 249)).cell? ⟨w.heap.size,1,none⟩=some (.map (some M)):=by simp
 have hkl:w.heap.size<(w.alloc (.cells #[.slice ad O.length cap,.map (some M)] 249)).heap.size:=by simp
 have HEL:Hid (∀ k (_:k<ds.length),∃ g o,p2=some ⟨g,o,none⟩∧∃ au nu cu,DpIn (w.alloc (.cells #[.slice ad O.length cap,.map (some M)] 249)) g (o+k*2) ds[k] (.slice au nu cu)):=by
  obtain ⟨ad',cap',e,_,hel⟩:=(hp.below HOV2.out).el;injection e with e1 _ _
  subst e1;exact hel
 have HDO:Hid (DepsAt (w.alloc (.cells #[.slice ad O.length cap,.map (some M)] 249)) (.slice ad O.length cap) O):=h.below HOV2.out;clear h hp hfit hm
 go_enter Tryz.func214,Tryz.ntmps214
 go_upto_region 1 with fail
 obtain ⟨KB,hKB⟩:∃ k,k=w.heap.size:=⟨_,rfl⟩;rw [←hKB] at k0 k1 hkl;rw [←hKB];generalize (w.alloc (.cells #[.slice ad O.length cap,.map (some M)] 249))=W at*;clear hKB
 go_wp2_with fail
 go_loopw [7,12] (fun vo vi wr=>∃ (k:Nat) (ps:List (Wt×List Sp)),k≤ds.length∧vi= .int .i64 k∧OwnWt wr W.heap.size vo ps∧dM O kd t (ds.take k) ps∧Below W.heap.size W wr) (fun _ vi _=>ds.length - (intOf vi).toNat)
 case atStart=>exact ⟨0,[],Nat.zero_le _,rfl,OwnWt.nil _ _,⟨rfl,fun i p hi=>by simp at hi⟩,Below.refl _ _⟩
 case round=>
  obtain ⟨k,ps,hk,rfl,hod,hps,hb⟩:=hrel;obtain ⟨ao,co,rfl⟩:=hod.len;have HBR:=aA hb;have HOD:=aA hod;have HPS:=aA hps;have hpl:ps.length=k:=by have:=hps.1;rw [List.length_take] at this;omega
  have hpz:ps.length≤100000000:=by omega
  clear hb hod hps hpl
  by_cases hlt:k<ds.length
  · have hki:(k:Int)<(ds.length:Int):=by omega
    obtain ⟨g,o,rfl,au,nu,cu,c0,c1,hsp,hg⟩:=HEL.out k hlt;obtain ⟨hz1,hz2⟩:=HFD.out _ (List.getElem_mem hlt);have HTK:Hid (ds.take (k+1)=ds.take k++[ds[k]]∧(ds.take k).length=k):=⟨List.take_succ_eq_append_getElem hlt,by rw [List.length_take];omega⟩;obtain ⟨d,hd⟩:∃ d,d=ds[k]:=⟨_,rfl⟩;rw [←hd] at c0 hsp hz1 hz2 HTK;have d0:=(HBR.out.cell (p:=⟨g,o+k*2,none⟩) hg).trans c0;have d1:=(HBR.out.cell (p:=⟨g,o+k*2+1,none⟩) hg).trans c1;have HDL:Hid (d.rg.length≤9223372036854775807∧d.nm.size≤9223372036854775807):=⟨hsp.2,by omega⟩;have HKD:Hid (KeepP fun X=>((Below W.heap.size W X∧OwnWt X W.heap.size (.slice ao ps.length co) ps)∧(SmAt X M n (.int .i64 0) (aG O)∧DepsAt X (.slice ad O.length cap) O))∧SpansC X (.slice au nu cu) d.rg):=fun p q hx hpq=>⟨⟨⟨aB hx.1.1.1 hpq,hx.1.1.2.below hpq⟩,hx.1.2.1.below hpq,hx.1.2.2.below hpq⟩,hx.2.below hpq⟩
    have HO0:Hid (((Below W.heap.size W wr∧OwnWt wr W.heap.size (.slice ao ps.length co) ps)∧(SmAt wr M n (.int .i64 0) (aG O)∧DepsAt wr (.slice ad O.length cap) O))∧SpansC wr (.slice au nu cu) d.rg):=⟨⟨⟨HBR.out,HOD.out⟩,HSW.out.below HBR.out,HDO.out.below HBR.out⟩,hsp.1.below HBR.out⟩;have HO:Hid (((Below W.heap.size W (wr.alloc (.cells #[.string d.nm,.slice au nu cu] 89)).drew∧OwnWt (wr.alloc (.cells #[.string d.nm,.slice au nu cu] 89)).drew W.heap.size (.slice ao ps.length co) ps)∧(SmAt (wr.alloc (.cells #[.string d.nm,.slice au nu cu] 89)).drew M n (.int .i64 0) (aG O)∧DepsAt (wr.alloc (.cells #[.string d.nm,.slice au nu cu] 89)).drew (.slice ad O.length cap) O))∧SpansC (wr.alloc (.cells #[.string d.nm,.slice au nu cu] 89)).drew (.slice au nu cu) d.rg):=HKD.out _ _ (HKD.out _ _ HO0.out (aD _ _)) (Below.refl _ _).drew;have hkr:KB<wr.heap.size:=Nat.lt_of_lt_of_le hkl HBR.out.size
    have HBX:Hid (∀ X,Below (wr.alloc (.cells #[.string d.nm,.slice au nu cu] 89)).heap.size (wr.alloc (.cells #[.string d.nm,.slice au nu cu] 89)) X→X.cell? ⟨wr.heap.size,0,none⟩=some (.string d.nm)∧X.cell? ⟨wr.heap.size,1,none⟩=some (.slice au nu cu)∧X.cell? ⟨KB,0,none⟩=some (.slice ad O.length cap)∧X.cell? ⟨KB,1,none⟩=some (.map (some M))):=fun X hb=>by
     have hq:Below W.heap.size W X:=aB (aB HBR.out (aD _ _)) hb;exact ⟨(hb.cell (p:=⟨wr.heap.size,0,none⟩) (by simp)).trans (by simp),(hb.cell (p:=⟨wr.heap.size,1,none⟩) (by simp)).trans (by simp),(hq.cell (p:=⟨KB,0,none⟩) hkl).trans k0,(hq.cell (p:=⟨KB,1,none⟩) hkl).trans k1⟩
    have HBB:Hid (Below (wr.alloc (.cells #[.string d.nm,.slice au nu cu] 89)).heap.size (wr.alloc (.cells #[.string d.nm,.slice au nu cu] 89)) (wr.alloc (.cells #[.string d.nm,.slice au nu cu] 89)).drew):=(Below.refl _ _).drew;have m0:=(HBR.out.cell (p:=⟨KB,0,none⟩) hkl).trans k0;have m1:=(HBR.out.cell (p:=⟨KB,1,none⟩) hkl).trans k1;have hle:W.heap.size≤wr.heap.size:=HBR.out.size
    have HNE:Hid (∀ q,(q=wr.heap.size∨q=KB)→some q≠(Value.slice ao ps.length co).ownBlock):=fun q hq e=>by
     have:=HOD.out.1.lt _ e.symm
     omega
    have HRO:Hid (∀ X,(((Below W.heap.size W X∧OwnWt X W.heap.size (.slice ao ps.length co) ps)∧(SmAt X M n (.int .i64 0) (aG O)∧DepsAt X (.slice ad O.length cap) O))∧SpansC X (.slice au nu cu) d.rg)→Calls Tryz.prog 239 #[.agg #[.slice ad O.length cap,.map (some M)],.agg #[.string d.nm,.slice au nu cu]] X fun e w'=>∃ a9 b9 c9,e= .returned (.slice a9 b9 c9)∧SpansC w' (.slice a9 b9 c9) (bJ O d)∧Below X.heap.size X w'):=fun X hx=>(sK hx.1.2.2 hx.1.2.1 d hx.2 HDL.out.1 HDL.out.2).mono fun e w' hq=>by
     obtain ⟨v,h1,h2,h3,h4⟩:=hq;have h2':=h2;obtain ⟨⟨a9,c9,rfl,_⟩,_⟩:=h2;exact ⟨a9,_,c9,h1,h2',h4⟩
    have HFIN:Hid (∀ (w5 w6 w7:World) (a7:Option Addr) (n7 c7:Nat) (v1:Value),(((Below W.heap.size W w5∧OwnWt w5 W.heap.size (.slice ao ps.length co) ps)∧(SmAt w5 M n (.int .i64 0) (aG O)∧DepsAt w5 (.slice ad O.length cap) O))∧SpansC w5 (.slice au nu cu) d.rg)→(((Below W.heap.size W w6∧OwnWt w6 W.heap.size (.slice ao ps.length co) ps)∧(SmAt w6 M n (.int .i64 0) (aG O)∧DepsAt w6 (.slice ad O.length cap) O))∧SpansC w6 (.slice au nu cu) d.rg)→OwnS w6 w5.heap.size (.slice a7 n7 c7) (bJ O d)→w7.ownsRow W.heap.size 161 3 v1 (ps.length+1) ((ps.map (·.1)).flatMap dA++[.string d.nm,.int .i64 kd,.slice a7 n7 c7])→w6.grownBy w7 (Value.slice ao ps.length co).ownBlock→∃ q,OwnWt w7 W.heap.size v1 (ps++[q])∧dM O kd t (ds.take (k+1)) (ps++[q])∧Below W.heap.size W w7):=fun w5 w6 w7 a7 n7 c7 v1 h5 h6 hs ho hg=>by
     refine ⟨(⟨d.nm,kd,a7,n7,c7,t+k⟩,bJ O d),OwnWt.snoc h6.1.1.2 (hs.base h5.1.1.1.size) (kC (x:=⟨d.nm,kd,a7,n7,c7,t+k⟩) h5.1.1.2 hs) ho hg,?_,h6.1.1.1.trans (dV hg (fun g e=>(h6.1.1.2.1.lt g e).1) h6.1.1.1.size)⟩;rw [HTK.out.1];exact sX HPS.out rfl rfl (by rw [HTK.out.2]) rfl
    clear hcap hd
    go_wp2_with fail
    go_region_held3 (fun w'=>w'.cell? ⟨wr.heap.size,0,none⟩=some (.string d.nm)∧w'.cell? ⟨wr.heap.size,1,none⟩=some (.slice au nu cu)∧w'.cell? ⟨KB,0,none⟩=some (.slice ad O.length cap)∧w'.cell? ⟨KB,1,none⟩=some (.map (some M))) (go_keep) (first
     |(refine uU (B:=W.heap.size) (M:=w7.heap.size) (wx:=w7) (v:= .slice ao ps.length co) vJ Tryz.underlying111 rfl (by decide) (by decide) rfl (.tmp 16) (.tmp 26) rfl rfl HO7.out.1.1.2.1 hB7 #[.string d.nm,.int .i64 kd,.slice a7 n7 c7] rfl (by simp [Value.oneCell']) rfl rfl (by omega) ?_;intro v1 w8 ho hgr hat;obtain ⟨g8,cap8,rfl,_⟩:=ho.form (by omega);have HP:=aA (HFIN.out _ _ _ _ _ _ _ HO6.out HO7.out HS7.out ho (dG (aD _ _) hgr));have z0:=(dG (aD _ _) hgr).cell y0 (HNE.out _ (Or.inl rfl));have z1:=(dG (aD _ _) hgr).cell y1 (HNE.out _ (Or.inl rfl));have z2:=(dG (aD _ _) hgr).cell y2 (HNE.out _ (Or.inr rfl));have z3:=(dG (aD _ _) hgr).cell y3 (HNE.out _ (Or.inr rfl));clear ho hgr hat)
     |(go_at_call 138;refine (HCL.out _ _ _ HV6.out hz2).mono ?_;rintro e w7 ⟨vs,rfl,hos,hb7⟩;have HB7:=aA (aB HB6.out hb7);have HO7:=aA (HKD.out _ _ HO6.out hb7);obtain ⟨y0,y1,y2,y3⟩:=HBX.out _ HB7.out;have HS0:=aA hos;obtain ⟨a7,c7,hvs,_,_⟩:=hos.sp;obtain ⟨n7,hn7⟩:∃ n,n=(bJ O d).length:=⟨_,rfl⟩;rw [←hn7] at hvs;subst hvs;have HS7:Hid (OwnS w7 w6.heap.size (.slice a7 n7 c7) (bJ O d)):=HS0.out;have hB7:W.heap.size≤w7.heap.size:=HO7.out.1.1.1.size;clear hb7 hos hn7 HS0)
     |(go_at_call 239;refine (HRO.out _ HO5.out).mono ?_;rintro e w6 ⟨a9,b9,c9,rfl,hv6,hb6⟩;have HV6:=aA hv6;have HB6:=aA (aB HB5.out hb6);have HO6:=aA (HKD.out _ _ HO5.out hb6);obtain ⟨t0,t1,t2,t3⟩:=HBX.out _ HB6.out;clear hb6 hv6)
     |(go_at_call 78;refine (HSC.out _ _ hz1).mono ?_;rintro e w5 ⟨rfl,hb5⟩;have HB5:=aA (aB HBB.out hb5);have HO5:=aA (HKD.out _ _ HO.out hb5);obtain ⟨x0,x1,x2,x3⟩:=HBX.out _ HB5.out;clear hb5))
    all_goals go_wp2
    all_goals (obtain ⟨q9,hq1,hq2,hq3⟩:=HP.out;exact ⟨⟨k+1,_,by omega,by go_num,hq1,hq2,hq3⟩,by simp [intOf];omega⟩)
  · obtain rfl:k=ds.length:=by omega
    have HPL:Hid (dM O kd t ds ps):=by
     have e:=HPS.out;rw [List.take_length] at e;exact e
    have hki:¬ ((ds.length:Int)<(ds.length:Int)):=by omega
    clear HPS
    go_wp2
    go_ret;exact ⟨_,rfl,ps,HOD.out.base HOV2.out.size,HPL.out,aB HOV2.out HBR.out⟩
end Go.Proofs.YtpfemjlhklnfoaaGreatDoor
