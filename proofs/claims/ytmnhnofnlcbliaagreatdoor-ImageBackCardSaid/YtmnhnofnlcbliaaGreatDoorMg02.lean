/- Im0, Im1, ScPl1, ScBa1, Im2, Vers2, Vers3, Vers4: their declarations that are needed, laid in one text, remarks and blanks left out. -/
import Derived.Maps.OwnSet
import Derived.Maps.RangeWalk
import Derived.RangeFuncGives
import Derived.RangeFuncBox
import Derived.Sort.MapsRangeIn
import Derived.OwnWalkIn
import Derived.TacticsInMore
import Derived.RegionIn
import Derived.LoopNIn
import Derived.LoopIn
import Derived.Test.YtmnhnofnlcbliaaGreatDoorProg
import Derived.Deep.QuietTactic
import Derived.BigQuiet
import Derived.Maps.AppendAt
import Derived.Deep.AppendLies
import Derived.Laws.OwnMore
import Derived.Laws.AppendOwn
import Derived.OwnWalk
import Derived.WalkMore
import Derived.Scope
import Derived.Deep.LoopGhost
import Derived.Handy
import Derived.Test.YtmnhnofnlcbliaaGreatDoorMg01
namespace Go.Proofs.YtmnhnofnlcbliaaGreatDoor
open Go.RowKit Go.Maps Go.WideMaps Go.WideElems
set_option maxRecDepth 100000
structure Fi where
 pa:ByteArray
 dr:Bool
 da:ByteArray
def iZ (x:Fi):Value:= .agg #[.string x.pa,.bool x.dr,.string x.da]
def dY (x:Fi):List Value:=[.string x.pa,.bool x.dr,.string x.da]
def fS (s:ByteArray):Lit:= .string s.data.toList
theorem uE {s t:ByteArray} (h:fS s=fS t):s=t:=by
 unfold fS at h;injection h with h
 cases s;cases t;simp only [ByteArray.mk.injEq];exact Array.toList_inj.1 h
theorem UZ (s:ByteArray):WideAt.IsKeyLit (fS s):=by unfold fS WideAt.IsKeyLit;trivial
theorem mE:Keyed Tryz.prog 9:=string_keyed Tryz.underlying9
theorem rB {s:ByteArray} (hs:s.size≤maxLen):keyOf Tryz.prog 9 (.string s)=some (fS s):=keyOf_string_mk Tryz.underlying9 hs
def gO (v:Value):Option (DataW Value×List MemPlace):=some (.held v,[])
structure MapF (D:DataW Value) (L:List Fi):Prop where
 map:Maps.IsMap D
 keys:∀ kl,Maps.has D kl=true→∃ x ∈ L,kl=fS x.pa
 has:∀ x ∈ L,Maps.has D (fS x.pa)=true∧∀ z,D.atKey (fS x.pa) z= .held (iZ x)
 dist:L.Pairwise fun x y=>x.pa≠y.pa
theorem MapF.new:MapF (.map []) []:=⟨⟨[],rfl⟩,(fun kl h=>by cases h),(fun x hx=>by cases hx),List.Pairwise.nil⟩
open Classical in
noncomputable def aR (L:List Fi) (x:Fi):List Fi:=x::L.filter fun y=>decide (y.pa≠x.pa)
theorem pH {L:List Fi} {x y:Fi}:y ∈ aR L x↔y=x∨(y ∈ L∧y.pa≠x.pa):=by
 unfold aR;rw [List.mem_cons,List.mem_filter,decide_eq_true_eq]
theorem VA (L:List Fi) (x:Fi):(aR L x).length≤L.length+1:=by
 unfold aR;rw [List.length_cons];exact Nat.succ_le_succ (List.length_filter_le _ _)
theorem MapF.put {D:DataW Value} {L:List Fi} (h:MapF D L) (x:Fi):MapF (D.put (fS x.pa) (.held (iZ x))) (aR L x):=by
 have hm:Maps.IsMap (D.put (fS x.pa) (.held (iZ x))):=by
  obtain ⟨es,rfl⟩:=h.map;exact ⟨_,rfl⟩
 refine ⟨hm,fun kl hk=> ?_,fun y hy=> ?_,?_⟩
 · by_cases e:kl=fS x.pa
   · exact ⟨x,pH.2 (Or.inl rfl),e⟩
   · rw [Maps.has_put_other e] at hk
     obtain ⟨y,hy,rfl⟩:=h.keys kl hk;exact ⟨y,pH.2 (Or.inr ⟨hy,fun q=>e (by rw [q])⟩),rfl⟩
 · rcases pH.1 hy with rfl|⟨hy,hne⟩
   · exact ⟨Maps.has_put_same h.map (UZ _) _,fun z=>Maps.atKey_put_same h.map (UZ _) _ z⟩
   · have hk:fS y.pa≠fS x.pa:=fun e=>hne (uE e)
     rw [Maps.has_put_other hk];exact ⟨(h.has y hy).1,fun z=>by rw [Maps.atKey_put_other hk];exact (h.has y hy).2 z⟩
 · unfold aR
   rw [List.pairwise_cons];refine ⟨fun y hy=> ?_,h.dist.filter _⟩
   have:=(List.mem_filter.1 hy).2
   rw [decide_eq_true_eq] at this;exact fun e=>this e.symm
def GoneF (L V U:List Fi) (left:Lit→Bool):Prop:=(V++U).Perm L∧(∀ x ∈ U,left (fS x.pa)=true)∧∀ kl,left kl=true→∃ x ∈ U,kl=fS x.pa
theorem RC {x:Fi} {kl:Lit} (h:(fS x.pa).sameKey kl=true):kl=fS x.pa:=by
 unfold fS at*;cases kl<;>simp [Lit.sameKey] at h
 rw [h]
theorem KE (x:Fi):(fS x.pa).sameKey (fS x.pa)=true:=by simp [fS,Lit.sameKey]
theorem GoneF.start {D:DataW Value} {L:List Fi} (h:MapF D L):GoneF L [] L (Maps.has D):=⟨List.Perm.refl _,fun x hx=>(h.has x hx).1,h.keys⟩
theorem GoneF.step {L V U:List Fi} {left:Lit→Bool} (h:GoneF L V U left) (hL:L.Pairwise fun x y=>x.pa≠y.pa) {x:Fi} (hx:x ∈ U):∃ U',GoneF L (V++[x]) U' (fun z=>left z&& !z.sameKey (fS x.pa)):=by
 obtain ⟨hp,h1,h2⟩:=h;obtain ⟨U1,U2,rfl⟩:=List.append_of_mem hx;refine ⟨U1++U2,?_,fun y hy=> ?_,fun kl hk=> ?_⟩
 · refine List.Perm.trans ?_ hp
   rw [List.append_assoc];refine List.Perm.append_left V ?_;exact (List.perm_middle (a:=x) (l₁:=U1) (l₂:=U2)).symm
 · have hpw:(V++(U1++x::U2)).Pairwise fun x y=>x.pa≠y.pa:=(hp.pairwise_iff (fun q e=>q e.symm)).2 hL
   have hu:=(List.pairwise_append.1 hpw).2.1;have hu2:=(List.perm_middle.pairwise_iff (fun q e=>q e.symm)).1 hu;have hne:x.pa≠y.pa:=(List.pairwise_cons.1 hu2).1 y hy
   have hy':y ∈ U1++x::U2:=by
    rcases List.mem_append.1 hy with q|q
    · exact List.mem_append_left _ q
    · exact List.mem_append_right _ (List.mem_cons_of_mem _ q)
   show (left (fS y.pa)&& !(fS y.pa).sameKey (fS x.pa))=true;rw [h1 y hy',Bool.true_and,Bool.not_eq_true'];cases hs:(fS y.pa).sameKey (fS x.pa) with
   |false=>rfl
   |true=>exact absurd (uE (RC hs)) hne
 · rw [Bool.and_eq_true,Bool.not_eq_true'] at hk
   obtain ⟨y,hy,rfl⟩:=h2 kl hk.1
   rcases List.mem_append.1 hy with q|q
   · exact ⟨y,List.mem_append_left _ q,rfl⟩
   · rcases List.mem_cons.1 q with rfl|q
     · rw [KE] at hk;exact absurd hk.2 (by decide)
     · exact ⟨y,List.mem_append_right _ q,rfl⟩
theorem GoneF.done {L V U:List Fi} {left:Lit→Bool} (h:GoneF L V U left) (hl:∀ kl,left kl=false):V.Perm L:=by
 have:U=[]:=by
  cases U with
  |nil=>rfl
  |cons x U=>
   have:=h.2.1 x List.mem_cons_self
   rw [hl] at this;cases this
 subst this
 have:=h.1
 rwa [List.append_nil] at this
end Go.Proofs.YtmnhnofnlcbliaaGreatDoor
namespace Go.Proofs.YtmnhnofnlcbliaaGreatDoor
open Go.RowKit Go.Maps Go.WideMaps
set_option maxRecDepth 100000
set_option maxHeartbeats 2000000 in
theorem VB (n:Nat) (hn:1≤n) (l Bm b nn:Nat) {L:List Fi} {D:DataW Value} (hD:MapF D L) (J:List Fi→World→Prop)
 (hY:∀ pre x W,J pre W→pre.length<L.length→YieldAt Fence.wide (n - 1) Tryz.prog l #[iZ x] W fun e W'=>e= .returned (.bool true)∧J (pre++[x]) W'∧KeepsWalks W W')
 (W:World) (hJ:AbidesFrom W.heap.size J) (hm:W.cell? ⟨Bm,0,none⟩=some (.map (some b))) (hown:W.ownsMap Tryz.prog 9 gO b nn D) (h0:J [] W):
 CallsIn Fence.wide n Tryz.prog 72 #[.func (.yield l) #[] #[],.pointer (some ⟨Bm,0,none⟩)] W fun e W'=>(∃ v,e= .returned v)∧∃ V:List Fi,V.Perm L∧J V W':=by
 refine callsIn_of_wp Tryz.func72 rfl trivial ?_ rfl;simp only [Tryz.ntmps72,List.size_toArray,List.length_cons,List.length_nil,Nat.reduceAdd,Nat.reduceSub,Array.replicate_succ,Array.replicate_zero,List.push_toArray,List.append_toArray,List.nil_append,List.cons_append]
 gi_wp2_with (first
  |(gi_at_range;refine wpListIn_range_own _ rfl _ 74 rfl 9 45 mE Tryz.underlying74 _ b nn _ rfl hown ?_;intro w0 hrg0 hg0 hs0)
  |gi_in)
 go_frame
 gi_loopw [4] (fun _ wr=>∃ (left:Lit→Bool) (cnt:Nat) (V U:List Fi),wr.ranges Tryz.prog 9 gO b W.heap.size nn D left cnt∧GoneF L V U left∧J V wr)
  (fun _ wr=>wr.rangeLeft b W.heap.size)
 case atStart=>
  exact ⟨_,_,[],L,hrg0,GoneF.start hD,hJ [] W w0 none h0 hg0 (fun r e=>by cases e)⟩
 case round=>
  obtain ⟨left,cnt,V,U,hrg,hC,hJs⟩:=hrel
  gi_wp2_with (first
   |(gi_at_next;refine wpListIn_next_ranges _ rfl _ rfl 9 mE gO (α:=Value) (β:=Value) id id (fun key kl hk=>⟨key,rfl⟩) (fun v _ _=>⟨v,rfl⟩) b W.heap.size nn _ _ _ rfl hrg ?_ ?_)
   |gi_in)
  · intro hc0 hl0
    gi_wp2
    go_end0
    exact ⟨⟨_,rfl⟩,V,hC.done hl0,hJs⟩
  · intro key c kl yd yp w2 cnt2 hkey hlk hv hat hrg2 hlt hg2 hs2 hen
    obtain ⟨x,hxU,rfl⟩:=hC.2.2 kl hlk;have hxL:x ∈ L:=hC.1.mem_iff.1 (List.mem_append_right _ hxU)
    have hvx:c=iZ x:=by
     have q:=hat (.held c);rw [(hD.has x hxL).2] at q;unfold gO at hv;simp only [Option.some.injEq,Prod.mk.injEq] at hv;rw [←hv.1] at q;injection q with q
     exact q.symm
    subst hvx;obtain ⟨U',hC'⟩:=hC.step hD.dist hxU
    have hlen:V.length<L.length:=by
     have e:=hC.1.length_eq;rw [List.length_append] at e
     have:=List.length_pos_of_mem hxU
     omega
    have hJ2:J V w2:=hJ V wr w2 (some W.heap.size) hJs hg2 (fun r e=>by cases e;exact ⟨Nat.le_refl _,hrg.iter_walk⟩);have hJ3:J V (w2.alloc (.cells #[.string x.pa,.bool x.dr,.string x.da] 45)):=hJ V w2 _ none hJ2 (World.grownBy_alloc _ _ _) (fun r e=>by cases e);obtain ⟨fn,tmps,assign,body,hy,hR⟩:=hY V x _ hJ3 hlen;unfold iZ at hy hen;clear hs2
    gi_wp2
    refine hR.mono ?_;rintro e W3 ⟨rfl,hJ4,hk3⟩
    gi_wp2
    have hrg3:=(hrg2.alloc (.cells #[.string x.pa,.bool x.dr,.string x.da] 45)).of_walks hk3
    go_roundw
    case rel=>exact ⟨_,cnt2,V++[x],U',hrg3,hC',hJ4⟩
    case measure=>rw [hrg3.left_eq,hrg.left_eq];exact hlt
end Go.Proofs.YtmnhnofnlcbliaaGreatDoor
namespace Go.Proofs.YtmnhnofnlcbliaaGreatDoor.Sc
set_option maxRecDepth 100000
abbrev Bs:=List UInt8
def wB (b:UInt8):Bool:=decide (33≤b.toNat)&&decide (b.toNat≤126)
def isW (w:Bs):Bool:=w.all wB&& !w.isEmpty
def isL (ws:List Bs):Bool:=ws.all isW&& !ws.isEmpty
def bI:Bs→Bs→List Bs→List (List Bs)→Except Nat (List (List Bs))
 |[],cur,ws,ls=>if cur=[]∧ws=[] then .ok ls else .error (ls.length+1)
 |b::r,cur,ws,ls=>
  if wB b=true then bI r (cur++[b]) ws ls
  else if cur=[] then .error (ls.length+1)
  else if b=32 then bI r [] (ws++[cur]) ls
  else if b=10 then bI r [] [] (ls++[ws++[cur]])
  else .error (ls.length+1)
theorem BG {b:UInt8} (h:wB b=true) (r cur:Bs) (ws:List Bs) (ls:List (List Bs)):bI (b::r) cur ws ls=bI r (cur++[b]) ws ls:=by conv=>lhs;unfold bI;rw [if_pos h]
theorem rC {b:UInt8} (h:wB b=false) (r:Bs) (ws:List Bs) (ls:List (List Bs)):bI (b::r) [] ws ls= .error (ls.length+1):=by conv=>lhs;unfold bI;rw [if_neg (by simp [h]),if_pos rfl]
theorem Ab {cur:Bs} (hc:cur≠[]) (r:Bs) (ws:List Bs) (ls:List (List Bs)):bI (32::r) cur ws ls=bI r [] (ws++[cur]) ls:=by conv=>lhs;unfold bI;rw [if_neg (by decide),if_neg hc,if_pos rfl]
theorem Ac {cur:Bs} (hc:cur≠[]) (r:Bs) (ws:List Bs) (ls:List (List Bs)):bI (10::r) cur ws ls=bI r [] [] (ls++[ws++[cur]]):=by conv=>lhs;unfold bI;rw [if_neg (by decide),if_neg hc,if_neg (by decide),if_pos rfl]
theorem VC {b:UInt8} (h:wB b=false) (h32:b≠32) (h10:b≠10) (r cur:Bs) (ws:List Bs) (ls:List (List Bs)):bI (b::r) cur ws ls= .error (ls.length+1):=by conv=>lhs;unfold bI;rw [if_neg (by simp [h]),if_neg h32,if_neg h10,ite_self]
theorem DP {cur:Bs} {ws:List Bs} (h:cur≠[]∨ws≠[]) (ls:List (List Bs)):bI [] cur ws ls= .error (ls.length+1):=by unfold bI;rw [if_neg];rintro ⟨rfl,rfl⟩;simp at h
def uF (ws:List Bs) (cur:Bs):Bs:=ws.flatMap (· ++[32])++cur
def aW:List Bs→Bs
 |[]=>[10]
 |[w]=>w++[10]
 |w::q::r=>w++[32]++aW (q::r)
def aM (ls:List (List Bs)):Bs:=ls.flatMap aW
theorem KF (ws:List Bs) (cur:Bs):aW (ws++[cur])=uF ws cur++[10]:=by
 induction ws with
 |nil=>rfl
 |cons w l ih=>
  cases l with
  |nil=>simp [aW,uF]
  |cons q r=>
   have:aW (w::q::r++[cur])=w++[32]++aW (q::r++[cur]):=rfl
   rw [this,ih];simp [uF]
theorem uG (ls:List (List Bs)) (l:List Bs):aM (ls++[l])=aM ls++aW l:=by simp [aM]
theorem BH {cur:Bs} (hc:cur.all wB=true) (h:cur≠[]):isW cur=true:=by
 unfold isW;rw [hc];cases cur with
 |nil=>exact absurd rfl h
 |cons _ _=>rfl
theorem kJ:∀ (t cur:Bs) (ws:List Bs) (ls L:List (List Bs)),bI t cur ws ls= .ok L→cur.all wB=true→ws.all isW=true→ls.all isL=true→L.all isL=true∧aM L=aM ls++uF ws cur++t
 |[],cur,ws,ls,L,h,hc,hw,hl=>by
  unfold bI at h
  split at h
  · rename_i hq
    cases h;rw [hq.1,hq.2];exact ⟨hl,by simp [uF]⟩
  · cases h
 |b::r,cur,ws,ls,L,h,hc,hw,hl=>by
  unfold bI at h
  split at h
  · rename_i hb
    obtain ⟨h1,h2⟩:=kJ r _ ws ls L h (by simp [hc,hb]) hw hl;exact ⟨h1,by rw [h2];simp [uF]⟩
  · split at h
    · cases h
    · rename_i hb hcur
      split at h
      · rename_i h32
        obtain ⟨h1,h2⟩:=kJ r [] (ws++[cur]) ls L h rfl (by simp [hw,BH hc hcur]) hl;exact ⟨h1,by rw [h2,h32];simp [uF]⟩
      · split at h
        · rename_i h32 h10
          obtain ⟨h1,h2⟩:=kJ r [] [] (ls++[ws++[cur]]) L h rfl rfl (by simp [hl,isL,hw,BH hc hcur]);exact ⟨h1,by rw [h2,h10,uG,KF];simp [uF]⟩
        · cases h
theorem rD:∀ (x r cur:Bs) (ws:List Bs) (ls:List (List Bs)),x.all wB=true→bI (x++r) cur ws ls=bI r (cur++x) ws ls
 |[],r,cur,ws,ls,_=>by simp
 |b::x,r,cur,ws,ls,h=>by
  simp only [List.all_cons,Bool.and_eq_true] at h;rw [List.cons_append]
  conv=>lhs;unfold bI;rw [if_pos h.1]
  rw [rD x r _ ws ls h.2];simp
theorem yV:∀ (l:List Bs) (ws:List Bs) (r:Bs) (ls:List (List Bs)),l.all isW=true→l≠[]→bI (aW l++r) [] ws ls=bI r [] [] (ls++[ws++l])
 |[],_,_,_,_,h=>absurd rfl h
 |[w],ws,r,ls,h,_=>by
  simp only [List.all_cons,List.all_nil,Bool.and_true,isW,Bool.and_eq_true] at h;have hne:w≠[]:=by rintro rfl;simp at h
  show bI (w++[10]++r) [] ws ls=_;rw [List.append_assoc,rD w _ [] ws ls h.1];show bI (10::r) ([]++w) ws ls=_
  conv=>lhs;unfold bI;rw [if_neg (by decide),if_neg (by simpa using hne),if_neg (by decide),if_pos rfl]
  simp
 |w::q::l,ws,r,ls,h,_=>by
  rw [List.all_cons,Bool.and_eq_true] at h;obtain ⟨h1,h2⟩:=h;simp only [isW,Bool.and_eq_true] at h1;have hne:w≠[]:=by rintro rfl;simp at h1
  show bI (w++[32]++aW (q::l)++r) [] ws ls=_;have e:w++[32]++aW (q::l)++r=w++(32::(aW (q::l)++r)):=by simp
  rw [e,rD w _ [] ws ls h1.1]
  conv=>lhs;unfold bI;rw [if_neg (by decide),if_neg (by simpa using hne),if_pos rfl]
  rw [List.nil_append,yV (q::l) (ws++[w]) r ls h2 (by simp)]
  simp
theorem mW:∀ (L:List (List Bs)) (ls:List (List Bs)),L.all isL=true→bI (aM L) [] [] ls= .ok (ls++L)
 |[],ls,_=>by simp [aM,bI]
 |l::L,ls,h=>by
  simp only [List.all_cons,Bool.and_eq_true,isL] at h;have hne:l≠[]:=by rintro rfl;simp at h
  show bI (aW l++aM L) [] [] ls=_;rw [yV l [] _ ls h.1.1 hne,mW L _ h.2]
  simp
end Go.Proofs.YtmnhnofnlcbliaaGreatDoor.Sc
namespace Go.Proofs.YtmnhnofnlcbliaaGreatDoor.Sc
open Go.RowKit
set_option maxRecDepth 100000
theorem aB {p:Prop} (h:p):Hid p:=h
theorem aD {a b:Bool} (h:a=b):Ending.returned (.bool a)= .returned (.bool b):=by rw [h]
theorem cV {a b:Int} (h:a=b):Ending.returned (.int .i64 a)= .returned (.int .i64 b):=by rw [h]
theorem aC (w:World) (o:Obj):Below w.heap.size w (w.alloc o):=(Below.refl _ _).alloc (Nat.le_refl _) _
theorem aA {w w1 w':World} (h:Below w.heap.size w w1) (hb:Below w1.heap.size w1 w'):Below w.heap.size w w':=h.trans (hb.mono h.size)
theorem bC {s t:ByteArray} (h:s.toList=t.toList):s=t:=by
 rw [ByteArray.toList_eq,ByteArray.toList_eq] at h;cases s;cases t;simp only [ByteArray.mk.injEq];exact Array.toList_inj.1 h
theorem aI (s:ByteArray):s.data.toList.length=s.size:=rfl
theorem bY {W:World} {a:Addr} {v:Value} (h:W.cell? a=some v):a.block<W.heap.size:=by
 rcases Nat.lt_or_ge a.block W.heap.size with h'|h'
 · exact h'
 · simp [World.cell?,Array.getElem?_eq_none h'] at h
theorem bK {e:TypeId} {z:Value} {n b:Nat} (h:(Tryz.prog.info? e).map (fun i=>(i.zero,i.size,i.bytes))=some (some z,n,b)):∃ i,Tryz.prog.info? e=some i∧i.zero=some z∧i.size=n∧i.bytes=b:=by
 cases hi:Tryz.prog.info? e with
 |none=>rw [hi] at h;cases h
 |some i=>
  rw [hi] at h;simp only [Option.map_some,Option.some.injEq,Prod.mk.injEq] at h;exact ⟨i,rfl,h.1,h.2.1,h.2.2⟩
theorem mX:(Tryz.prog.info? 9).map (fun i=>(i.zero,i.size,i.bytes))=some (some (.string ByteArray.empty),1,16):=by kernel_rfl
theorem DR:(Tryz.prog.info? 50).map (fun i=>(i.zero,i.size,i.bytes))=some (some (.slice none 0 0),1,24):=by kernel_rfl
def OJ (J:Nat→Act→World→Prop) (Q:Exit→Act→World→Prop):Exit→Act→World→Prop
 | .goto l,a,w=>J l a w
 |e,a,w=>Q e a w
section
variable {J:Nat→Act→World→Prop} {Q:Exit→Act→World→Prop} {a:Act} {w:World}
theorem kK:OJ J Q .ret a w=Q .ret a w:=rfl
theorem cY (l:Nat):OJ J Q (.goto l) a w=J l a w:=rfl
end
theorem nV {P:Program} {a:Act} {w:World} {Q:Exit→Act→World→Prop} {c:Code} (J:Nat→Act→World→Prop) (μ:Nat→Act→World→Nat)
 (first:c.wp P (OJ J Q) a w)
 (pass:∀ l a w,J l a w→∃ rest,findLabel c l=some rest∧rest.wp P (OJ (fun l' a' w'=>J l' a' w'∧μ l' a' w'<μ l a w) Q) a w):(Code.scope c).wp P Q a w:=by
 intro b k cs
 have key:∀ n l a w,μ l a w=n→J l a w→∃ rest,findLabel c l=some rest∧∃ e a' w',Q e a' w'∧Arrives P (lone (b.at a (.code rest:: .inScope c::k)) cs w) b k cs e a' w':=by
  intro n
  induction n using Nat.strongRecOn with
  |_ n ih=>
   intro l a w hn hJ;obtain ⟨rest,hf,hp⟩:=pass l a w hJ;refine ⟨rest,hf,?_⟩;obtain ⟨e,a₁,w₁,hq,harr⟩:=hp b (.inScope c::k) cs;cases e with
   |normal=>exact ⟨.normal,a₁,w₁,hq,Steps.trans harr (.one step_inScope)⟩
   |exit id=>exact ⟨.exit id,a₁,w₁,hq,fun k' hk=>harr k' (by simp [exitTo,hk])⟩
   |goto l'=>
    obtain ⟨hJ',hlt⟩:=hq;obtain ⟨rest',hf',e₂,a₂,w₂,hq₂,harr₂⟩:=ih _ (by omega) l' a₁ w₁ rfl hJ';have hg:gotoIn l' (.inScope c::k)=some (.code rest':: .inScope c::k):=by simp [gotoIn,hf']
    exact ⟨e₂,a₂,w₂,hq₂,.of_steps (harr _ hg) harr₂⟩
   |ret=>exact ⟨_,a₁,w₁,hq,harr⟩
   |panic ch=>exact ⟨_,a₁,w₁,hq,harr⟩
   |outgrown=>exact ⟨_,a₁,w₁,hq,harr⟩
 obtain ⟨e,a₁,w₁,hq,harr⟩:=first b (.inScope c::k) cs
 cases e with
 |normal=>exact ⟨.normal,a₁,w₁,hq,.head step_scope (Steps.trans harr (.one step_inScope))⟩
 |exit id=>exact ⟨.exit id,a₁,w₁,hq,fun k' hk=> .head step_scope (harr k' (by simp [exitTo,hk]))⟩
 |goto l'=>
  obtain ⟨rest',hf',e₂,a₂,w₂,hq₂,harr₂⟩:=key _ l' a₁ w₁ rfl hq;have hg:gotoIn l' (.inScope c::k)=some (.code rest':: .inScope c::k):=by simp [gotoIn,hf']
  exact ⟨e₂,a₂,w₂,hq₂,.of_steps (.head step_scope (harr _ hg)) harr₂⟩
 |ret=>exact ⟨_,a₁,w₁,hq,.of_steps (.one step_scope) harr⟩
 |panic ch=>exact ⟨_,a₁,w₁,hq,.of_steps (.one step_scope) harr⟩
 |outgrown=>exact ⟨_,a₁,w₁,hq,.of_steps (.one step_scope) harr⟩
def ba (l:Bs):ByteArray:=⟨l.toArray⟩
theorem cQ (l:Bs):(ba l).data.toList=l:=by simp [ba]
theorem kL (s:ByteArray):ba s.data.toList=s:=by cases s;simp [ba]
theorem mY (l:Bs):(ba l).size=l.length:=by show l.toArray.size=_;simp
theorem gP (s:ByteArray) (f k:Nat):s.extract f k=ba ((s.data.toList.take k).drop f):=by
 have:(s.extract f k).data.toList=(s.data.toList.take k).drop f:=by
  rw [ByteArray.data_extract,Array.toList_extract,List.extract_eq_take_drop,List.drop_take]
 rw [←this,kL]
def lD (ws:List Bs):List Value:=ws.map fun w=> .string (ba w)
theorem mF (ws:List Bs):(lD ws).length=ws.length:=by simp [lD]
theorem RE (ws:List Bs) (x:Bs):lD (ws++[x])=lD ws++[.string (ba x)]:=by simp [lD]
def WordsAt (w:World) (v:Value) (ws:List Bs):Prop:=∃ ad cap,v= .slice ad ws.length cap∧ws.length≤cap∧(ws=[]∨∃ g o,ad=some ⟨g,o,none⟩∧g<w.heap.size∧∀ i (h:i<ws.length),w.cell? ⟨g,o+i,none⟩=some (.string (ba ws[i])))
def LinesAt (w:World) (v:Value) (L:List (List Bs)):Prop:=∃ ad cap,v= .slice ad L.length cap∧L.length≤cap∧(L=[]∨∃ g o,ad=some ⟨g,o,none⟩∧g<w.heap.size∧∀ i (h:i<L.length),∃ u,w.cell? ⟨g,o+i,none⟩=some u∧WordsAt w u L[i])
theorem WordsAt.below {w w':World} {v:Value} {ws:List Bs} (h:WordsAt w v ws) (hb:Below w.heap.size w w'):WordsAt w' v ws:=by
 obtain ⟨ad,cap,hv,hc,hl⟩:=h;refine ⟨ad,cap,hv,hc,hl.imp id ?_⟩;rintro ⟨g,o,ha,hg,hs⟩;exact ⟨g,o,ha,Nat.lt_of_lt_of_le hg hb.size,fun i hi=>(hb.cell (p:=⟨g,o+i,none⟩) hg).trans (hs i hi)⟩
theorem LinesAt.below {w w':World} {v:Value} {L:List (List Bs)} (h:LinesAt w v L) (hb:Below w.heap.size w w'):LinesAt w' v L:=by
 obtain ⟨ad,cap,hv,hc,hl⟩:=h;refine ⟨ad,cap,hv,hc,hl.imp id ?_⟩;rintro ⟨g,o,ha,hg,hs⟩;refine ⟨g,o,ha,Nat.lt_of_lt_of_le hg hb.size,fun i hi=> ?_⟩;obtain ⟨u,h1,h2⟩:=hs i hi;exact ⟨u,(hb.cell (p:=⟨g,o+i,none⟩) hg).trans h1,h2.below hb⟩
def OwnW (w:World) (B:Nat) (v:Value) (ws:List Bs):Prop:=w.ownsRow B 9 1 v ws.length (lD ws)
theorem OwnW.nil (w:World) (B:Nat):OwnW w B (.slice none 0 0) []:=⟨rfl,Or.inl ⟨rfl,rfl⟩⟩
theorem OwnW.block {w:World} {B:Nat} {v:Value} {ws:List Bs} (h:OwnW w B v ws) (hne:ws≠[]):∃ g,v.ownBlock=some g:=by
 rcases h.2 with ⟨_,h0⟩|⟨g,cap,cur,rfl,_⟩
 · exact absurd (List.eq_nil_of_length_eq_zero h0) hne
 · exact ⟨g,rfl⟩
theorem OwnW.at {w:World} {B:Nat} {v:Value} {ws:List Bs} (h:OwnW w B v ws):WordsAt w v ws:=by
 have h0:=h
 rcases h.2 with ⟨rfl,hn⟩|⟨g,cap,cur,rfl,hB,hg,hc,_⟩
 · exact ⟨none,0,by rw [hn],by omega,Or.inl (List.eq_nil_of_length_eq_zero hn)⟩
 · refine ⟨_,cap,rfl,hc,Or.inr ⟨g,0,rfl,(Array.getElem?_eq_some_iff.1 hg).1,fun i hi=> ?_⟩⟩
   have:=World.ownsRow.cellAt h0 i (by omega)
   rw [Nat.zero_add,this];simp [lD,hi]
def LL (w:World) (B:Nat) (vl:Value) (ps:List (Value×List Bs)):Prop:=
 w.ownsRow B 50 1 vl ps.length (ps.map (·.1))∧(∀ p ∈ ps,OwnW w B p.1 p.2∧p.2≠[])∧(ps.map (·.1.ownBlock)).Nodup∧(∀ p ∈ ps,vl.ownBlock≠p.1.ownBlock)∧(ps=[]→vl= .slice none 0 0)
theorem LL.nil (w:World) (B:Nat):LL w B (.slice none 0 0) []:=⟨⟨rfl,Or.inl ⟨rfl,rfl⟩⟩,(fun p hp=>by cases hp),List.nodup_nil,(fun p hp=>by cases hp),fun _=>rfl⟩
theorem LL.len {w:World} {B:Nat} {vl:Value} {ps:List (Value×List Bs)} (h:LL w B vl ps):∃ ad cap,vl= .slice ad ps.length cap:=by
 rcases h.1.2 with ⟨rfl,hn⟩|⟨g,cap,cur,rfl,_⟩
 · exact ⟨none,0,by rw [hn]⟩
 · exact ⟨_,cap,rfl⟩
theorem LL.kept {w w':World} {B:Nat} {vl:Value} {ps:List (Value×List Bs)} {row:Option Nat} (h:LL w B vl ps) (hg:w.grownBy w' row) (h1:vl.ownBlock=none∨vl.ownBlock≠row) (h2:∀ p ∈ ps,p.1.ownBlock≠row):LL w' B vl ps:=
 ⟨h.1.kept hg h1,fun p hp=>⟨(h.2.1 p hp).1.kept hg (Or.inr (h2 p hp)),(h.2.1 p hp).2⟩,h.2.2.1,h.2.2.2⟩
theorem LL.at {w:World} {B:Nat} {vl:Value} {ps:List (Value×List Bs)} (h:LL w B vl ps):LinesAt w vl (ps.map (·.2)):=by
 have h0:=h.1
 rcases h.1.2 with ⟨rfl,hn⟩|⟨g,cap,cur,rfl,hB,hg,hc,_⟩
 · have:ps=[]:=List.eq_nil_of_length_eq_zero hn
   subst this;exact ⟨none,0,rfl,Nat.le_refl _,Or.inl rfl⟩
 · refine ⟨_,cap,by rw [List.length_map],by rw [List.length_map];exact hc,Or.inr ⟨g,0,rfl,(Array.getElem?_eq_some_iff.1 hg).1,fun i hi=> ?_⟩⟩
   have hi':i<ps.length:=by simpa using hi
   have:=World.ownsRow.cellAt h0 i (by omega)
   refine ⟨ps[i].1,by rw [Nat.zero_add,this];simp [hi'],?_⟩;rw [List.getElem_map];exact (h.2.1 _ (List.getElem_mem hi')).1.at
def St (w0:World) (vl vw:Value) (ps:List (Value×List Bs)) (ws:List Bs) (w:World):Prop:=
 LL w w0.heap.size vl ps∧OwnW w w0.heap.size vw ws∧(∀ p ∈ ps,vw.ownBlock≠p.1.ownBlock)∧(vw.ownBlock=none∨vw.ownBlock≠vl.ownBlock)∧Below w0.heap.size w0 w
theorem St.start (w:World):St w (.slice none 0 0) (.slice none 0 0) [] [] w:=⟨LL.nil _ _,OwnW.nil _ _,(fun p hp=>by cases hp),Or.inl rfl,Below.refl _ _⟩
theorem LL.below {w w':World} {B:Nat} {vl:Value} {ps:List (Value×List Bs)} (h:LL w B vl ps) (hb:Below w.heap.size w w'):LL w' B vl ps:=by
 have own:∀ {e:TypeId} {v:Value} {n:Nat} {xs:List Value},w.ownsRow B e 1 v n xs→w'.ownsRow B e 1 v n xs:=by
  intro e v n xs ho;refine ⟨ho.1,?_⟩
  rcases ho.2 with hn|⟨g,cap,cur,rfl,hB,hgg,r⟩
  · exact Or.inl hn
  · exact Or.inr ⟨g,cap,cur,rfl,hB,(hb.block g (Array.getElem?_eq_some_iff.1 hgg).1).trans hgg,r⟩
 exact ⟨own h.1,fun p hp=>⟨own (h.2.1 p hp).1,(h.2.1 p hp).2⟩,h.2.2.1,h.2.2.2⟩
theorem OwnW.below {w w':World} {B:Nat} {v:Value} {ws:List Bs} (h:OwnW w B v ws) (hb:Below w.heap.size w w'):OwnW w' B v ws:=by
 refine ⟨h.1,?_⟩
 rcases h.2 with hn|⟨g,cap,cur,rfl,hB,hgg,r⟩
 · exact Or.inl hn
 · exact Or.inr ⟨g,cap,cur,rfl,hB,(hb.block g (Array.getElem?_eq_some_iff.1 hgg).1).trans hgg,r⟩
theorem St.below {w0:World} {vl vw:Value} {ps:List (Value×List Bs)} {ws:List Bs} {w w':World} (h:St w0 vl vw ps ws w) (hb:Below w.heap.size w w'):St w0 vl vw ps ws w':=
 ⟨h.1.below hb,h.2.1.below hb,h.2.2.1,h.2.2.2.1,aA h.2.2.2.2 hb⟩
theorem St.word {w0:World} {vl vw:Value} {ps:List (Value×List Bs)} {ws:List Bs} {w w':World} {v':Value} (x:Bs) (h:St w0 vl vw ps ws w) (ho:w'.ownsRow w0.heap.size 9 1 v' (ws.length+1) (lD ws++[.string (ba x)])) (hg:w.grownBy w' vw.ownBlock) (hat:v'.ownBlock=vw.ownBlock∨v'.ownBlock=some w.heap.size):St w0 vl v' ps (ws++[x]) w':=by
 obtain ⟨h1,h2,h3,h4,h5⟩:=h;have hs:=h5.size;refine ⟨h1.kept hg ?_ fun p hp=>(h3 p hp).symm,?_,?_,?_,?_⟩
 · rcases h4 with h4|h4
   · rw [h4]
     cases hv:vl.ownBlock with
     |none=>exact Or.inl rfl
     |some _=>exact Or.inr (by simp)
   · exact Or.inr h4.symm
 · unfold OwnW;rw [RE,List.length_append];exact ho
 · intro p hp
   rcases hat with e|e
   · rw [e];exact h3 p hp
   · rw [e]
     intro e2
     have:=(World.ownsRow.lt (h1.2.1 p hp).1 _ e2.symm).2
     omega
 · rcases hat with e|e
   · rw [e];exact h4
   · refine Or.inr ?_
     rw [e];intro e2
     have:=(World.ownsRow.lt h1.1 _ e2.symm).2
     omega
 · exact h5.grown hg hs fun k hk=>(World.ownsRow.lt h2 k hk).1
theorem St.line {w0:World} {vl vw:Value} {ps:List (Value×List Bs)} {ws:List Bs} {w w':World} {v':Value} (h:St w0 vl vw ps ws w) (hne:ws≠[]) (ho:w'.ownsRow w0.heap.size 50 1 v' (ps.length+1) (ps.map (·.1)++[vw])) (hg:w.grownBy w' vl.ownBlock) (hat:v'.ownBlock=vl.ownBlock∨v'.ownBlock=some w.heap.size):St w0 v' (.slice none 0 0) (ps++[(vw,ws)]) [] w':=by
 obtain ⟨h1,h2,h3,h4,h5⟩:=h;have hs:=h5.size;obtain ⟨g,hgb⟩:=h2.block hne
 have hvw:vw.ownBlock≠vl.ownBlock:=by
  rcases h4 with h4|h4
  · rw [hgb] at h4;cases h4
  · exact h4
 have hlt:=(World.ownsRow.lt h2 g hgb).2;refine ⟨⟨?_,?_,?_,?_,fun e=>absurd e (by simp)⟩,OwnW.nil _ _,?_,Or.inl rfl,?_⟩
 · rw [List.length_append,List.map_append];exact ho
 · intro p hp
   rcases List.mem_append.1 hp with hp|hp
   · exact ⟨(h1.2.1 p hp).1.kept hg (Or.inr (h1.2.2.2.1 p hp).symm),(h1.2.1 p hp).2⟩
   · obtain rfl:p=(vw,ws):=by simpa using hp
     exact ⟨h2.kept hg (Or.inr hvw),hne⟩
 · rw [List.map_append,List.nodup_append]
   refine ⟨h1.2.2.1,by simp,?_⟩;intro x hx y hy;obtain ⟨p,hp,rfl⟩:=List.mem_map.1 hx;simp only [List.map_cons,List.map_nil,List.mem_singleton] at hy;rw [hy];exact (h3 p hp).symm
 · intro p hp
   have hold:∀ k,p.1.ownBlock=some k→k<w.heap.size:=by
    intro k hk
    rcases List.mem_append.1 hp with hp|hp
    · exact (World.ownsRow.lt (h1.2.1 p hp).1 k hk).2
    · obtain rfl:p=(vw,ws):=by simpa using hp
      exact (World.ownsRow.lt h2 k hk).2
   rcases hat with e|e
   · rw [e]
     rcases List.mem_append.1 hp with hp|hp
     · exact h1.2.2.2.1 p hp
     · obtain rfl:p=(vw,ws):=by simpa using hp
       exact hvw.symm
   · rw [e]
     intro e2
     have:=hold _ e2.symm
     omega
 · intro p hp
   rcases List.mem_append.1 hp with hp|hp
   · obtain ⟨k,hk⟩:=(h1.2.1 p hp).1.block (h1.2.1 p hp).2
     rw [hk];simp [Value.ownBlock]
   · obtain rfl:p=(vw,ws):=by simpa using hp
     show _≠vw.ownBlock;rw [hgb];simp [Value.ownBlock]
 · exact h5.grown hg hs fun k hk=>(World.ownsRow.lt h1.1 k hk).1
def KeepP (K:World→Prop):Prop:=∀ w w',K w→Below w.heap.size w w'→K w'
theorem KeepP.and {K M:World→Prop} (hk:KeepP K) (hm:KeepP M):KeepP fun w=>K w∧M w:=fun _ _ h hb=>⟨hk _ _ h.1 hb,hm _ _ h.2 hb⟩
theorem KeepP.drew {K:World→Prop} (hk:KeepP K) {w:World} (h:K w):K w.drew:=hk _ _ h (Below.refl _ _).drew
theorem aG (w:World):KeepP fun w1=>Below w.heap.size w w1:=fun _ _ h hb=>aA h hb
end Go.Proofs.YtmnhnofnlcbliaaGreatDoor.Sc
namespace Go.Proofs.YtmnhnofnlcbliaaGreatDoor
open Go.RowKit Go.Maps Go.WideMaps
set_option maxRecDepth 100000
theorem OK:(Tryz.prog.info? 45).map (fun i=>(i.zero,i.size,i.bytes))=some (some (.agg #[.string ⟨#[]⟩,.bool false,.string ⟨#[]⟩]),3,40):=by kernel_rfl
def Du:Code:=Code.region 2 #[{ dst:=some 5,op:=Op.alloc 45,type:=0,pos:= "iter.go:51",after:= #[],guard:=none },{ dst:=none,op:=Op.store 45 (Operand.tmp 5) (Operand.tmp 7),type:=0,pos:= "iter.go:51",after:= #[{ on:=0,ground:=Ground.data },{ on:=0,ground:=Ground.phase }],guard:=none }] false
def Dw:Code:=Code.block 1 (Code.region 3 #[{ dst:=some 8,op:=Op.load 33 (Operand.tmp 2),type:=33,pos:= "iter.go:52",after:= #[],guard:=none },{ dst:=some 9,op:=Op.load 45 (Operand.tmp 5),type:=45,pos:= "iter.go:52",after:= #[],guard:=none },{ dst:=some 10,op:=Op.buildSlice 33 1 #[(0,Operand.tmp 9)],type:=33,pos:= "iter.go:52",after:= #[{ on:=1,ground:=Ground.data }],guard:=none },{ dst:=some 11,op:=Op.call { callee:=Callee.builtin Builtin.append,args:= #[Operand.tmp 8,Operand.tmp 10],argTypes:= #[33,33] },type:=33,pos:= "iter.go:52",after:= #[{ on:=0,ground:=Ground.data },{ on:=2,ground:=Ground.data }],guard:=none },{ dst:=none,op:=Op.store 33 (Operand.tmp 2) (Operand.tmp 11),type:=0,pos:= "iter.go:52",after:= #[{ on:=3,ground:=Ground.data },{ on:=3,ground:=Ground.chain },{ on:=0,ground:=Ground.phase },{ on:=1,ground:=Ground.phase },{ on:=2,ground:=Ground.phase },{ on:=3,ground:=Ground.phase }],guard:=none }] false)
def uH (fn:FuncId) (sv:Value) (Bs D:Nat) (st:LoopState):Loop:=
 { state:=st,pending:=none,fn,tmps:= #[.slice none 0 0,sv,.pointer (some ⟨Bs,0,none⟩),undef,.slice none 0 0,undef,sv,undef,undef,undef,undef,undef,undef],params:= #[7],assign:=Du,body:=Dw,defers:=D }
structure SoFarF (w0:World) (fn:FuncId) (sv:Value) (Bs l D:Nat) (V:List Fi) (W:World):Prop where
 box:∃ v,W.heap[Bs]? =some (.cells #[v] 33 (0,0))∧W.ownsRow w0.heap.size 45 3 v V.length (V.flatMap dY)
 L:W.heap[l]? =some (.loop (uH fn sv Bs D .ready))
 K:W.heap[D]? =some (.deferred (some []))
 below:Below w0.heap.size w0 W
theorem DS (w:World) (cs:Array Value) (t:TypeId):∀ j u,cs.toList[j]? =some u→(w.alloc (.cells cs t)).cell? ((⟨w.heap.size,0,none⟩:Addr).add j)=some u:=
 World.news_of_block (cs:=cs) (t:=t) (fr:=(0,0)) (by show (w.heap.push _)[w.heap.size]? =_;rw [Array.getElem?_push,if_pos rfl])
theorem dM {W:World} {base:Nat} {e:TypeId} {size:Nat} {v:Value} {k:Nat} {xs:List Value} (h:W.ownsRow base e size v k xs) {j:Nat} {o:Obj} (hj:W.heap[j]? =some o) (hno:∀ cur,o≠ .cells cur e (0,0)):v.ownBlock=none∨v.ownBlock≠some j:=by
 rcases h.2 with ⟨rfl,_⟩|⟨g,cap,cur,rfl,_,hgb,_⟩
 · exact .inl rfl
 · refine .inr fun e'=> ?_
   obtain rfl:g=j:=by simpa [Value.ownBlock] using e'
   rw [hgb] at hj;cases hj;exact hno cur rfl
theorem VD {W W':World} {row:Option Nat} {base:Nat} {e:TypeId} {size:Nat} {v:Value} {k:Nat} {xs:List Value} (h:W.ownsRow base e size v k xs) (hg:W.grownBy W' row) (hr:∀ r,row=some r→∃ o:Obj,W.heap[r]? =some o∧o.isWalk=true):W'.ownsRow base e size v k xs:=by
 refine h.kept hg ?_
 rcases h.2 with ⟨rfl,_⟩|⟨g,cap,cur,rfl,_,hgb,_⟩
 · exact .inl rfl
 · refine .inr fun e'=> ?_
   obtain ⟨o,ho,hw⟩:=hr g (by simpa [Value.ownBlock] using e'.symm);rw [hgb] at ho;cases ho;cases hw
theorem KG {W:World} {base:Nat} {e:TypeId} {size:Nat} {v:Value} {k:Nat} {xs:List Value} (h:W.ownsRow base e size v k xs):∀ (j:Nat) (o:Obj),v.ownBlock=some j→W.heap[j]? =some o→o.isWalk=false:=by
 intro j o hj ho
 rcases h.2 with ⟨rfl,_⟩|⟨g,cap,cur,rfl,_,hgb,_⟩
 · simp [Value.ownBlock] at hj
 · obtain rfl:g=j:=by simpa [Value.ownBlock] using hj
   rw [hgb] at ho;cases ho;rfl
theorem iV (W:World) (l:Nat) (o:Obj):W.grownBy (W.putObj l o) (some l):=⟨rfl,rfl,rfl,by simp,fun k _ hk=>World.putObj_heap_other (fun e=>hk (by rw [e]))⟩
theorem SoFarF.abides (w0:World) (fn:FuncId) (sv:Value) (Bs l D B:Nat) (hB:w0.heap.size≤B):AbidesFrom B (SoFarF w0 fn sv Bs l D):=fun s W W' row h hg hrow=>by
 have hrow':∀ r,row=some r→∃ o:Obj,W.heap[r]? =some o∧o.isWalk=true:=fun r e=>(hrow r e).2
 obtain ⟨v,hv,hr⟩:=h.box;exact ⟨⟨v,(grownBy_keeps hg hrow' hv rfl).trans hv,VD hr hg hrow'⟩,(grownBy_keeps hg hrow' h.L rfl).trans h.L,(grownBy_keeps hg hrow' h.K rfl).trans h.K,h.below.grown hg h.below.size (fun k e=>Nat.le_trans hB (hrow k e).1)⟩
set_option maxHeartbeats 3200000 in
theorem Dx (m:Nat) (w0:World) (fn:FuncId) (sv:Value) (Bs l D:Nat) (hBl:Bs≠l) (hDl:D≠l) (hDB:D≠Bs) (h0B:w0.heap.size≤Bs) (h0l:w0.heap.size≤l) (V:List Fi) (x:Fi) (W:World) (h:SoFarF w0 fn sv Bs l D V W) (hlen:V.length≤1000000):
 YieldAt Fence.wide m Tryz.prog l #[iZ x] W fun e W'=>e= .returned (.bool true)∧SoFarF w0 fn sv Bs l D (V++[x]) W'∧KeepsWalks W W':=by
 obtain ⟨i0,hi,hz0,hz1,hz2⟩:=Sc.bK OK;have hne:(33:Nat)≠45:=by decide
 obtain ⟨v,hv,hrow⟩:=h.box;refine ⟨fn,#[.slice none 0 0,sv,.pointer (some ⟨Bs,0,none⟩),undef,.slice none 0 0,undef,sv,iZ x,undef,undef,undef,undef,undef],Du,Dw,by simpa [uH] using run_yield (P:=Tryz.prog) (args:= #[iZ x]) h.L rfl,roundIn_of_wpIn trivial ?_⟩;have hl:l<W.heap.size:=(Array.getElem?_eq_some_iff.1 h.L).1;have hBW:Bs<W.heap.size:=(Array.getElem?_eq_some_iff.1 hv).1;have hDW:D<W.heap.size:=(Array.getElem?_eq_some_iff.1 h.K).1;have e0:(W.alloc (.cells #[.string x.pa,.bool x.dr,.string x.da] 45)).cell? ⟨W.heap.size,0,none⟩=some (.string x.pa):=by simp
 have e1:(W.alloc (.cells #[.string x.pa,.bool x.dr,.string x.da] 45)).cell? ⟨W.heap.size,1,none⟩=some (.bool x.dr):=by simp
 have e2:(W.alloc (.cells #[.string x.pa,.bool x.dr,.string x.da] 45)).cell? ⟨W.heap.size,2,none⟩=some (.string x.da):=by simp
 have hs1:(W.alloc (.cells #[.string x.pa,.bool x.dr,.string x.da] 45)).heap.size=W.heap.size+1:=by simp
 have hv1:(W.alloc (.cells #[.string x.pa,.bool x.dr,.string x.da] 45)).heap[Bs]? =some (.cells #[v] 33 (0,0)):=(Below.heap_alloc _ _ Bs hBW).trans hv;have hK1:(W.alloc (.cells #[.string x.pa,.bool x.dr,.string x.da] 45)).heap[D]? =some (.deferred (some [])):=(Below.heap_alloc _ _ D hDW).trans h.K;have hL1:(W.alloc (.cells #[.string x.pa,.bool x.dr,.string x.da] 45)).heap[l]? =some (.loop (uH fn sv Bs D .ready)):=(Below.heap_alloc _ _ l hl).trans h.L;have hrow1:=hrow.alloc (.cells #[.string x.pa,.bool x.dr,.string x.da] 45);have hb1:Below w0.heap.size w0 (W.alloc (.cells #[.string x.pa,.bool x.dr,.string x.da] 45)):=h.below.alloc h.below.size _;have hk1:KeepsWalks W (W.alloc (.cells #[.string x.pa,.bool x.dr,.string x.da] 45)):=KeepsWalks.alloc _ _;unfold Du;unfold iZ
 gi_wp2_with (rw [Oper.semAt_eq _ _ _ (fun c h=>by cases h)];go_simp;try go_bits)
 generalize (W.alloc (.cells #[.string x.pa,.bool x.dr,.string x.da] 45))=W1 at*;have hbr:=run_beginRound (P:=Tryz.prog) hL1 rfl;obtain ⟨W2,hW2⟩:∃ W2,W1.putObj l (.loop { uH fn sv Bs D .ready with state:= .busy })=W2:=⟨_,rfl⟩;rw [hW2] at hbr;have hl1:l<W1.heap.size:=by omega
 have hg2:W1.grownBy W2 (some l):=by rw [←hW2];exact iV _ _ _
 have hk2:KeepsWalks W W2:=by rw [←hW2];exact hk1.trans (KeepsWalks.putObj _ hL1 rfl)
 have hv2:W2.heap[Bs]? =some (.cells #[v] 33 (0,0)):=by rw [←hW2];exact (World.putObj_heap_other hBl).trans hv1
 have hK2:W2.heap[D]? =some (.deferred (some [])):=by rw [←hW2];exact (World.putObj_heap_other hDl).trans hK1
 have hL2:W2.heap[l]? =some (.loop { uH fn sv Bs D .ready with state:= .busy }):=by rw [←hW2];exact World.putObj_heap_same hl1
 have hrow2:W2.ownsRow w0.heap.size 45 3 v V.length (V.flatMap dY):=hrow1.kept hg2 (dM hrow1 hL1 (fun cur e=>by cases e));have hb2:Below w0.heap.size w0 W2:=hb1.grown hg2 hb1.size (fun k e=>by cases e;exact h0l);have hnl:some W.heap.size≠some l:=fun e=>by have:=Option.some.inj e;omega
 have d0:=(World.cell?_of_block (a:=⟨W.heap.size,0,none⟩) (hg2.block W.heap.size (by omega) hnl)).trans e0;have d1:=(World.cell?_of_block (a:=⟨W.heap.size,1,none⟩) (hg2.block W.heap.size (by omega) hnl)).trans e1;have d2:=(World.cell?_of_block (a:=⟨W.heap.size,2,none⟩) (hg2.block W.heap.size (by omega) hnl)).trans e2;obtain ⟨hc2,hf2⟩:W2.cell? ⟨Bs,0,none⟩=some v∧W2.frozen? ⟨Bs,0,none⟩=false:=by constructor<;>simp [World.cell?,World.frozen?,hv2]
 have hBlt:Bs<W2.heap.size:=(Array.getElem?_eq_some_iff.1 hv2).1;have hl2:l<W2.heap.size:=(Array.getElem?_eq_some_iff.1 hL2).1;have hDlt:D<W2.heap.size:=(Array.getElem?_eq_some_iff.1 hK2).1
 have hno:∀ {j:Nat} {o:Obj},W2.heap[j]? =some o→(∀ cur,o≠ .cells cur 45 (0,0))→some j≠v.ownBlock:=fun hj hno=>by
  rcases dM hrow2 hj hno with e|e
  · rw [e];simp
  · exact fun e'=>e e'.symm
 have hnb:∀ cur,Obj.cells #[v] 33 (0,0)≠ .cells cur 45 (0,0):=fun cur e=>hne (Obj.cells.inj e).2.1
 refine ⟨W2,hbr,?_⟩;clear hbr hW2 e0 e1 e2;unfold Dw
 gi_wp2_with (first
  |(gi_at_builtin;refine wpListIn_append_own _ rfl _ _ 33 rfl w0.heap.size 45 i0 _ 3 40 Tryz.underlying33 hi hz0 hz1 hz2 rfl (by decide) _ _ _ rfl (hrow2.alloc _) ⟨W2.heap.size,0,none⟩ 1 1 (dY x) rfl rfl (DS _ _ _) (by simp [Value.oneCell',dY]) (by unfold maxLen;omega) (by omega) (by have:=hb2.size;simp;omega) ?_;intro v' w3 hown' hg3 hnil3
    have hv3:w3.heap[Bs]? =some (.cells #[v] 33 (0,0)):=(hg3.block Bs (by simp;omega) (hno hv2 hnb)).trans ((Below.heap_alloc _ _ Bs hBlt).trans hv2);obtain ⟨hc3,hf3⟩:w3.cell? ⟨Bs,0,none⟩=some v∧w3.frozen? ⟨Bs,0,none⟩=false:=by constructor<;>simp [World.cell?,World.frozen?,hv3]
    obtain ⟨g',cap',hv'⟩:=ownsRow_succ hown';subst hv'
    go_frame)
  |(rw [Oper.semAt_eq _ _ _ (fun c h=>by cases h)];go_simp;try go_bits))
 have hg3':(W2.alloc (.cells #[.string x.pa,.bool x.dr,.string x.da] 45)).grownBy w3 v.ownBlock:=hg3;have hL3:w3.heap[l]? =some (.loop { uH fn sv Bs D .ready with state:= .busy }):=(hg3'.block l (by simp;omega) (hno hL2 (fun cur e=>by cases e))).trans ((Below.heap_alloc _ _ l hl2).trans hL2);have hK3:w3.heap[D]? =some (.deferred (some [])):=(hg3'.block D (by simp;omega) (hno hK2 (fun cur e=>by cases e))).trans ((Below.heap_alloc _ _ D hDlt).trans hK2);obtain ⟨w4,hw4⟩:∃ w4,w3.setCell ⟨Bs,0,none⟩ (.slice (some ⟨g',0,none⟩) (V.length+1) cap')=w4:=⟨_,rfl⟩;rw [hw4];have hg4:w3.grownBy w4 (some Bs):=by rw [←hw4];exact grownBy_setCell' _ _ _
 have hv4:w4.heap[Bs]? =some (.cells #[.slice (some ⟨g',0,none⟩) (V.length+1) cap'] 33 (0,0)):=by rw [←hw4];exact Boxed.set _ hv3
 have hL4:w4.heap[l]? =some (.loop { uH fn sv Bs D .ready with state:= .busy }):=(hg4.block l (Array.getElem?_eq_some_iff.1 hL3).1 (fun e=>hBl (by cases e;rfl))).trans hL3;have hK4:w4.heap[D]? =some (.deferred (some [])):=(hg4.block D (Array.getElem?_eq_some_iff.1 hK3).1 (fun e=>hDB (by cases e;rfl))).trans hK3;have hrow4:=hown'.kept hg4 (dM hown' hv3 hnb);have hl4:l<w4.heap.size:=(Array.getElem?_eq_some_iff.1 hL4).1;have hb3:Below w0.heap.size w0 w3:=(hb2.alloc hb2.size _).grown hg3' (by have:=hb2.size;simp;omega) (fun k e=>(hrow2.lt k e).1);have hb4:Below w0.heap.size w0 w4:=hb3.grown hg4 hb3.size (fun k e=>by cases e;exact h0B);have hk4:KeepsWalks W w4:=((hk2.trans (KeepsWalks.alloc _ _)).trans (KeepsWalks.of_grownBy hg3' (KG (hrow2.alloc _)))).trans (by rw [←hw4];exact KeepsWalks.setCell _ _ _);clear hw4
 refine ⟨_,_,run_endRound none hL4,rfl,⟨⟨_,(World.putObj_heap_other hBl).trans hv4,?_⟩,World.putObj_heap_same hl4,(World.putObj_heap_other hDl).trans hK4,hb4.grown (iV _ _ _) hb4.size (fun k e=>by cases e;exact h0l)⟩,hk4.trans (KeepsWalks.putObj _ hL4 rfl)⟩;have q1:(V++[x]).length=V.length+1:=by simp
 have q2:(V++[x]).flatMap dY=V.flatMap dY++dY x:=by simp
 rw [q1,q2];exact hrow4.kept (iV w4 l _) (dM hrow4 hL4 (fun cur e=>by cases e))
def RG {α:Type} (F:Fence) (n:Nat) (P:Program) (g:Nat) (lb:Array Value) (enc:α→Value) (S:List α→Prop) (N:Nat) (w:World):Prop:=
 ∀ (l:Nat) (J:List α→World→Prop) (W:World),Below w.heap.size w W→AbidesFrom W.heap.size J→(∀ V W1,J V W1→Below w.heap.size w W1)→
   (∀ pre x W1,J pre W1→pre.length<N→YieldAt F (n - 1) P l #[enc x] W1 fun e W'=>e= .returned (.bool true)∧J (pre++[x]) W'∧KeepsWalks W1 W')→
   J [] W→
   CallsIn F n P g (#[.func (.yield l) #[] #[]]++lb) W fun e W'=>(∃ v,e= .returned v)∧∃ xs,S xs∧J xs W'
theorem Ad {α:Type} {F:Fence} {n:Nat} {P:Program} {g:Nat} {lb:Array Value} {enc:α→Value} {S:List α→Prop} {N:Nat} {w:World} (h:SeqGives F n P g lb enc S N w):RG F n P g lb enc S N w:=fun l J W hb hJ _ hY h0=>h l J W hb hJ hY h0
set_option maxHeartbeats 3200000 in
theorem KH (n:Nat) (hn:2≤n) (g:Nat) (lb:Array Value) (eg:∀ args w,(callFunc g args).run Tryz.prog w= .ok (.enter g args) w) (S:List Fi→Prop) (N:Nat) (hN:N≤1000000) (w:World) (hseq:RG Fence.wide (n - 1) Tryz.prog g lb iZ S N w):
 CallsIn Fence.wide n Tryz.prog 166 #[.slice none 0 0,.func (.func g) #[] lb] w fun e w'=>∃ (v:Value) (V:List Fi),e= .returned v∧S V∧w'.ownsRow w.heap.size 45 3 v V.length (V.flatMap dY)∧Below w.heap.size w w':=by
 have h1:1≤n:=by omega
 have hne:(33:Nat)≠45:=by decide
 refine callsIn_of_wp_marks Tryz.func166 rfl trivial ?_ rfl;simp only [Tryz.ntmps166,List.size_toArray,List.length_cons,List.length_nil,Nat.reduceAdd,Nat.reduceSub,Array.replicate_succ,Array.replicate_zero,List.push_toArray,List.append_toArray,List.nil_append,List.cons_append]
 gi_wp2
 refine wpIn_rangeFunc ?_;intro fn hfn;obtain ⟨W0,hW0⟩:∃ W0,w.alloc (.cells #[.slice none 0 0] 33)=W0:=⟨_,rfl⟩;have hs0:W0.heap.size=w.heap.size+1:=by rw [←hW0];simp
 have hv0:W0.heap[w.heap.size]? =some (.cells #[.slice none 0 0] 33 (0,0)):=by rw [←hW0];exact World.alloc_heap_new w _
 have hb0:Below w.heap.size w W0:=by rw [←hW0];exact (Below.refl _ w).alloc (Nat.le_refl _) _
 rw [hW0];obtain ⟨W1,hW1⟩:∃ W1,(W0.alloc (.deferred (some []))).alloc (.loop (uH fn (.func (.func g) #[] lb) w.heap.size W0.heap.size .ready))=W1:=⟨_,rfl⟩
 have hold:∀ k,k<W0.heap.size→W1.heap[k]? =W0.heap[k]? :=fun k hk=>by
  rw [←hW1];exact (Below.heap_alloc _ _ k (by simp;omega)).trans (Below.heap_alloc _ _ k hk)
 have hb1:Below w.heap.size w W1:=by rw [←hW1];exact (hb0.alloc hb0.size _).alloc (by have:=hb0.size;simp;omega) _
 have hs1:W1.heap.size=W0.heap.size+2:=by rw [←hW1];simp
 have hM:SoFarF w fn (.func (.func g) #[] lb) w.heap.size (W0.heap.size+1) W0.heap.size [] W1:=
  ⟨⟨_,(hold w.heap.size (by omega)).trans hv0,⟨rfl,.inl ⟨rfl,rfl⟩⟩⟩,
   by rw [←hW1];have:=World.alloc_heap_new (W0.alloc (.deferred (some []))) (.loop (uH fn (.func (.func g) #[] lb) w.heap.size W0.heap.size .ready));rwa [World.size_alloc] at this,
   by rw [←hW1];exact (Below.heap_alloc _ _ _ (by simp)).trans (World.alloc_heap_new W0 _),hb1⟩
 refine ⟨W0.heap.size+1,[{ target:= .collected W0.heap.size,args:= #[] }],W1,{ target:= .fn (.func g) lb,args:= #[.func (.yield (W0.heap.size+1)) #[] #[]] },W1,g,#[.func (.yield (W0.heap.size+1)) #[] #[]]++lb,W1,?_,?_,?_,?_,fun _=>h1,?_⟩
 · rw [←hW1];exact run_enterLoop_outer _ _ _ _ _
 · simp [resolve,go_sem]
 · intro f' hf'
   trivial
 · simp [invoke,go_sem,eg]
 · refine (hseq (W0.heap.size+1) (SoFarF w fn (.func (.func g) #[] lb) w.heap.size (W0.heap.size+1) W0.heap.size) W1 hb1 (SoFarF.abides _ _ _ _ _ _ _ hb1.size) (fun _ _ h=>h.below)
    (fun pre x W hJ hl=>Dx (n - 1 - 1) w fn _ w.heap.size (W0.heap.size+1) W0.heap.size (by omega) (by omega) (by omega) (Nat.le_refl _) (by omega) pre x W hJ (by omega)) hM).mono ?_
   rintro e W2 ⟨⟨v0,rfl⟩,V,hS,h2⟩;obtain ⟨v,hv,hrow⟩:=h2.box;have hend:=run_endLoop (P:=Tryz.prog) h2.L (by simp [uH]);obtain ⟨W3,hW3⟩:∃ W3,W2.putObj (W0.heap.size+1) (.loop { uH fn (.func (.func g) #[] lb) w.heap.size W0.heap.size .ready with state:= .exhausted })=W3:=⟨_,rfl⟩;rw [hW3] at hend;have hg3:W2.grownBy W3 (some (W0.heap.size+1)):=by rw [←hW3];exact iV _ _ _
   have hv3:W3.heap[w.heap.size]? =some (.cells #[v] 33 (0,0)):=by rw [←hW3];exact (World.putObj_heap_other (by omega)).trans hv
   have hK3:W3.heap[W0.heap.size]? =some (.deferred (some [])):=by rw [←hW3];exact (World.putObj_heap_other (by omega)).trans h2.K
   have hrow3:=hrow.kept hg3 (dM hrow h2.L (fun cur e=>by cases e));have hb3:Below w.heap.size w W3:=h2.below.grown hg3 h2.below.size (fun k e=>by cases e;omega);obtain ⟨hc3,hf3⟩:W3.cell? ⟨w.heap.size,0,none⟩=some v∧W3.frozen? ⟨w.heap.size,0,none⟩=false:=by constructor<;>simp [World.cell?,World.frozen?,hv3]
   clear hW3;refine ⟨none,W3,hend,?_⟩
   gi_wp2
   rw [←hs0];refine ⟨by simp,.inl ⟨_,_,rfl,run_takeDeferred hK3,?_⟩⟩;exact ⟨_,results_tmp rfl _ _ _,v,V,rfl,hS,hrow3.kept (iV _ _ _) (dM hrow3 hK3 (fun cur e=>by cases e)),hb3.grown (iV _ _ _) hb3.size (fun k e=>by cases e;omega)⟩
end Go.Proofs.YtmnhnofnlcbliaaGreatDoor
namespace Go.Proofs.YtmnhnofnlcbliaaGreatDoor
open Go.RowKit
set_option maxRecDepth 100000
theorem DT {B:Nat} {a w:World} (h:Below B a w) (n:Nat):Below B a (w.drewN n):=⟨h.os,h.tape,h.output,h.size,h.block⟩
def bE (a b c:Int):Int:=if bB a b c=true then (a*1000+b)*1000+c else 0
def jX (n:Int):Bool:=decide (0≤n)&&decide (n<1000000000)
def atA (n:Int):Int:=if jX n=true then n / 1000000 else 0
def atB (n:Int):Int:=if jX n=true then n / 1000 % 1000 else 0
def atC (n:Int):Int:=if jX n=true then n % 1000 else 0
theorem DU {a b:Int} {x y:Bool} (h:a=b) (k:x=y):Ending.returned (.tuple #[.int .i64 a,.bool x])= .returned (.tuple #[.int .i64 b,.bool y]):=by rw [h,k]
theorem hI {a b c a' b' c':Int} {x y:Bool} (h1:a=a') (h2:b=b') (h3:c=c') (k:x=y):Ending.returned (.tuple #[.agg #[.int .i64 a,.int .i64 b,.int .i64 c],.bool x])= .returned (.tuple #[.agg #[.int .i64 a',.int .i64 b',.int .i64 c'],.bool y]):=by rw [h1,h2,h3,k]
theorem dR {a b c:Int} (h:bB a b c=true):0≤a∧a≤999∧0≤b∧b≤999∧0≤c∧c≤999:=by
 simp [bB,dP] at h;omega
set_option maxHeartbeats 800000 in
theorem VE (a b c:Int) (w:World):
 Calls Tryz.prog 309 #[.agg #[.int .i64 a,.int .i64 b,.int .i64 c]] w fun e w'=>e= .returned (.tuple #[.int .i64 (bE a b c),.bool (bB a b c)])∧Below w.heap.size w w':=by
 have HM:Hid (∀ w1,Calls Tryz.prog 159 #[.agg #[.int .i64 a,.int .i64 b,.int .i64 c]] w1 fun e w'=>e= .returned (.bool (bB a b c))∧Below w1.heap.size w1 w'):=jP a b c;cases hm:bB a b c
 · have HR:Hid (bE a b c=0):=by unfold Hid bE;rw [hm];rfl
   rw [hm] at HM
   go_enter Tryz.func309,Tryz.ntmps309
   go_wp2_with (go_at_call 159;refine (HM.out _).mono ?_;rintro e w' ⟨rfl,hb⟩)
   go_returns;exact ⟨DU HR.out.symm rfl,aA (aC _ _) hb⟩
 · have HR:Hid (bE a b c=(a*1000+b)*1000+c):=by unfold Hid bE;rw [hm];rfl
   obtain ⟨a0,a1,b0,b1,c0,c1⟩:=dR hm;rw [hm] at HM
   go_enter Tryz.func309,Tryz.ntmps309
   go_wp2_with (go_at_call 159;refine (HM.out _).mono ?_;rintro e w' ⟨rfl,hb⟩;obtain ⟨k0,k1,k2,k3,k4⟩:=Dt hb)
   go_returns;exact ⟨DU (by rw [HR.out];try go_arith) rfl,aA (aC _ _) hb⟩
set_option maxHeartbeats 800000 in
theorem Dy (n:Int) (w:World):
 Calls Tryz.prog 310 #[.int .i64 n] w fun e w'=>e= .returned (.tuple #[.agg #[.int .i64 (atA n),.int .i64 (atB n),.int .i64 (atC n)],.bool (jX n)])∧Below w.heap.size w w':=by
 cases hh:jX n
 · have HR:Hid (atA n=0∧atB n=0∧atC n=0):=by unfold Hid atA atB atC;rw [hh];exact ⟨rfl,rfl,rfl⟩
   simp [jX] at hh
   by_cases h0:n<0
   · go_enter Tryz.func310,Tryz.ntmps310
     go_wp2
     go_returns;exact ⟨hI HR.out.1.symm HR.out.2.1.symm HR.out.2.2.symm rfl,by go_grown⟩
   · go_enter Tryz.func310,Tryz.ntmps310
     go_wp2
     go_returns;exact ⟨hI HR.out.1.symm HR.out.2.1.symm HR.out.2.2.symm rfl,by go_grown⟩
 · have HR:Hid (atA n=n / 1000000∧atB n=n / 1000 % 1000∧atC n=n % 1000):=by unfold Hid atA atB atC;rw [hh];exact ⟨rfl,rfl,rfl⟩
   simp [jX] at hh;obtain ⟨h0,h1⟩:=hh
   go_enter Tryz.func310,Tryz.ntmps310
   go_wp2
   go_returns;refine ⟨hI ?_ ?_ ?_ rfl,by go_grown⟩
   · have:=HR.out.1;omega
   · have:=HR.out.2.1;omega
   · have:=HR.out.2.2;omega
theorem DV {w:World} {N:Nat} {x y z:Value} (j0:w.cell? ⟨N,0,none⟩=some x) (j1:w.cell? ⟨N,1,none⟩=some y) (j2:w.cell? ⟨N,2,none⟩=some z):
 (∀ u,(w.setCell ⟨N,0,none⟩ u).cell? ⟨N,0,none⟩=some u)∧(∀ u v,((w.setCell ⟨N,0,none⟩ u).setCell ⟨N,1,none⟩ v).cell? ⟨N,1,none⟩=some v)∧(∀ u v t,(((w.setCell ⟨N,0,none⟩ u).setCell ⟨N,1,none⟩ v).setCell ⟨N,2,none⟩ t).cell? ⟨N,2,none⟩=some t):=by
 have k1:∀ u,(w.setCell ⟨N,0,none⟩ u).cell? ⟨N,1,none⟩=some y:=fun u=>(World.cell?_setCell_other _ _ _ _ (by simp)).trans j1
 have k2:∀ u v,((w.setCell ⟨N,0,none⟩ u).setCell ⟨N,1,none⟩ v).cell? ⟨N,2,none⟩=some z:=fun u v=>(World.cell?_setCell_other _ _ _ _ (by simp)).trans ((World.cell?_setCell_other _ _ _ _ (by simp)).trans j2)
 exact ⟨fun u=>World.cell?_setCell_same _ _ _ j0,fun u v=>World.cell?_setCell_same _ _ _ (k1 u),fun u v t=>World.cell?_setCell_same _ _ _ (k2 u v)⟩
theorem eH {w w':World} {N B:Nat} {x y z:Value} (hN:B≤N) (h:Below B w w'):Below B w (((w'.setCell ⟨N,0,none⟩ x).setCell ⟨N,1,none⟩ y).setCell ⟨N,2,none⟩ z):=
 ((h.setCell hN _).setCell hN _).setCell hN _
set_option maxHeartbeats 800000 in
theorem uI (a b c k:Int) (w:World) (hk:k=1∨k= -1):
 Calls Tryz.prog 300 #[.agg #[.int .i64 a,.int .i64 b,.int .i64 c],.int .i64 k] w fun e w'=>e= .returned (.tuple #[.agg #[.int .i64 (if bB a b c then atA (bE a b c+k) else 0),.int .i64 (if bB a b c then atB (bE a b c+k) else 0),.int .i64 (if bB a b c then atC (bE a b c+k) else 0)],.bool (bB a b c&&jX (bE a b c+k))])∧Below w.heap.size w w':=by
 have HM:Hid (∀ w1,Calls Tryz.prog 309 #[.agg #[.int .i64 a,.int .i64 b,.int .i64 c]] w1 fun e w'=>e= .returned (.tuple #[.int .i64 (bE a b c),.bool (bB a b c)])∧Below w1.heap.size w1 w'):=VE a b c;have HA:Hid (∀ w1,Calls Tryz.prog 310 #[.int .i64 (bE a b c+k)] w1 fun e w'=>e= .returned (.tuple #[.agg #[.int .i64 (atA (bE a b c+k)),.int .i64 (atB (bE a b c+k)),.int .i64 (atC (bE a b c+k))],.bool (jX (bE a b c+k))])∧Below w1.heap.size w1 w'):=Dy _;cases hm:bB a b c
 · rw [hm] at HM
   go_enter Tryz.func300,Tryz.ntmps300
   go_wp2_with (go_at_call 309;refine (HM.out _).mono ?_;rintro e w' ⟨rfl,hb⟩;obtain ⟨k0,k1,k2,k3,k4,k5,k6⟩:=DN (N:=w.heap.size+1) (by simp) hb)
   obtain ⟨s0,s1,s2⟩:=DV ‹World.cell? w' ⟨w.heap.size+1,0,none⟩=_› ‹World.cell? w' ⟨w.heap.size+1,1,none⟩=_› ‹World.cell? w' ⟨w.heap.size+1,2,none⟩=_›
   try simp only [Exit.inBlock,Exit.then]
   refine bodyPost_ret (by simp [results,Tryz.results300,s0,s1,s2,go_sem];try rfl) rfl ?_;exact ⟨hI rfl rfl rfl rfl,eH (by omega) (aA (aS _ _ _) hb)⟩
 · obtain ⟨a0,a1,b0,b1,c0,c1⟩:=dR hm
   have hr:bE a b c=(a*1000+b)*1000+c:=by unfold bE;rw [hm];rfl
   have hr0:0≤bE a b c:=by rw [hr];omega
   have hr1:bE a b c<1000000000:=by rw [hr];omega
   rw [hm] at HM;clear hr;generalize bE a b c=r at*
   go_enter Tryz.func300,Tryz.ntmps300
   go_wp2_with (first
    |(go_at_call 309;refine (HM.out _).mono ?_;rintro e w1 ⟨rfl,hb⟩;obtain ⟨k0,k1,k2,k3,k4,k5,k6⟩:=DN (N:=w.heap.size+1) (by simp) hb)
    |(go_at_call 310;refine (HA.out _).mono ?_;rintro e w2 ⟨rfl,hb2⟩;have j0:=(hb2.cell (p:=⟨w.heap.size+1,0,none⟩) k6).trans k0;have j1:=(hb2.cell (p:=⟨w.heap.size+1,1,none⟩) k6).trans k1;have j2:=(hb2.cell (p:=⟨w.heap.size+1,2,none⟩) k6).trans k2;have j3:=(hb2.frozen (p:=⟨w.heap.size+1,0,none⟩) k6).trans k3;have j4:=(hb2.frozen (p:=⟨w.heap.size+1,1,none⟩) k6).trans k4;have j5:=(hb2.frozen (p:=⟨w.heap.size+1,2,none⟩) k6).trans k5))
   obtain ⟨s0,s1,s2⟩:=DV ‹World.cell? w2 ⟨w.heap.size+1,0,none⟩=_› ‹World.cell? w2 ⟨w.heap.size+1,1,none⟩=_› ‹World.cell? w2 ⟨w.heap.size+1,2,none⟩=_›
   try simp only [Exit.inBlock,Exit.then]
   refine bodyPost_ret (by simp [results,Tryz.results300,s0,s1,s2,go_sem];try rfl) rfl ?_;exact ⟨hI rfl rfl rfl rfl,eH (by omega) (aA (aA (aS _ _ _) hb) hb2)⟩
def onA (a b c k:Int):Int:=if bB a b c then atA (bE a b c+k) else 0
def onB (a b c k:Int):Int:=if bB a b c then atB (bE a b c+k) else 0
def onC (a b c k:Int):Int:=if bB a b c then atC (bE a b c+k) else 0
def pI (a b c k:Int):Bool:=bB a b c&&jX (bE a b c+k)
set_option maxHeartbeats 800000 in
theorem DW (a b c:Int) (w:World):
 Calls Tryz.prog 289 #[.agg #[.int .i64 a,.int .i64 b,.int .i64 c]] w fun e w'=>e= .returned (.tuple #[.agg #[.int .i64 (onA a b c 1),.int .i64 (onB a b c 1),.int .i64 (onC a b c 1)],.bool (pI a b c 1)])∧Below w.heap.size w w':=by
 have HM:Hid (∀ w1,Calls Tryz.prog 300 #[.agg #[.int .i64 a,.int .i64 b,.int .i64 c],.int .i64 1] w1 fun e w'=>e= .returned (.tuple #[.agg #[.int .i64 (onA a b c 1),.int .i64 (onB a b c 1),.int .i64 (onC a b c 1)],.bool (pI a b c 1)])∧Below w1.heap.size w1 w'):=fun w1=>uI a b c 1 w1 (by omega)
 go_enter Tryz.func289,Tryz.ntmps289
 go_wp2_with (go_at_call 300;refine (HM.out _).mono ?_;rintro e w' ⟨rfl,hb⟩;obtain ⟨k0,k1,k2,k3,k4,k5,k6⟩:=DN (N:=w.heap.size+1) (by simp) hb)
 obtain ⟨s0,s1,s2⟩:=DV k0 k1 k2
 try simp only [Exit.inBlock,Exit.then]
 refine bodyPost_ret (by simp [results,Tryz.results289,s0,s1,s2,go_sem];try rfl) rfl ?_;exact ⟨hI rfl rfl rfl rfl,eH (by omega) (aA (aS _ _ _) hb)⟩
set_option maxHeartbeats 800000 in
theorem VF (a b c:Int) (w:World):
 Calls Tryz.prog 306 #[.agg #[.int .i64 a,.int .i64 b,.int .i64 c]] w fun e w'=>e= .returned (.tuple #[.agg #[.int .i64 (onA a b c (-1)),.int .i64 (onB a b c (-1)),.int .i64 (onC a b c (-1))],.bool (pI a b c (-1))])∧Below w.heap.size w w':=by
 have HM:Hid (∀ w1,Calls Tryz.prog 300 #[.agg #[.int .i64 a,.int .i64 b,.int .i64 c],.int .i64 (-1)] w1 fun e w'=>e= .returned (.tuple #[.agg #[.int .i64 (onA a b c (-1)),.int .i64 (onB a b c (-1)),.int .i64 (onC a b c (-1))],.bool (pI a b c (-1))])∧Below w1.heap.size w1 w'):=fun w1=>uI a b c (-1) w1 (by omega)
 go_enter Tryz.func306,Tryz.ntmps306
 go_wp2_with (go_at_call 300;refine (HM.out _).mono ?_;rintro e w' ⟨rfl,hb⟩;obtain ⟨k0,k1,k2,k3,k4,k5,k6⟩:=DN (N:=w.heap.size+1) (by simp) hb)
 obtain ⟨s0,s1,s2⟩:=DV k0 k1 k2
 try simp only [Exit.inBlock,Exit.then]
 refine bodyPost_ret (by simp [results,Tryz.results306,s0,s1,s2,go_sem];try rfl) rfl ?_;exact ⟨hI rfl rfl rfl rfl,eH (by omega) (aA (aS _ _ _) hb)⟩
end Go.Proofs.YtmnhnofnlcbliaaGreatDoor
