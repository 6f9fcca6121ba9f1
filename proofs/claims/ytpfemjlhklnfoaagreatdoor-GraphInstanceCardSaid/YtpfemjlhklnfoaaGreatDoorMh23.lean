/- St12, St13, St14, Wg2, Wg3, Wg4: their declarations that are needed, laid in one text, remarks and blanks left out. -/
import Derived.Test.YtpfemjlhklnfoaaGreatDoorMh22
namespace Go.Proofs.YtpfemjlhklnfoaaGreatDoor
open Go.RowKit Go.Maps Go.WideMaps
set_option maxRecDepth 100000
def TB (A Z:List Wt):Prop:=∀ x ∈ A,∀ z ∈ Z,x.tg<z.tg
def hF (c:Nat):List (List Wt)→Prop
 |[]=>True
 |[L]=>0<L.length∧L.length≤c
 |L::L'::r=>L.length=c∧hF c (L'::r)
def Blk (X:List Wt) (Ls:List (List Wt)):Prop:=(∀ L ∈ Ls,L.Pairwise ltT)∧Ls.Pairwise TB∧Ls.flatten.Perm X
theorem qP {X A Z M:List Wt} {Ds r:List (List Wt)} (h:Blk X (Ds++A::Z::r)) (hM:M.Perm (A++Z)) (hs:M.Pairwise ltT):Blk X (Ds++M::r):=by
 obtain ⟨h1,h2,h3⟩:=h;rw [List.pairwise_append,List.pairwise_cons,List.pairwise_cons] at h2;obtain ⟨p1,⟨p2,p3,p4⟩,p5⟩:=h2;have hm:∀ x ∈ M,x ∈ A∨x ∈ Z:=fun x hx=>List.mem_append.1 (hM.mem_iff.1 hx)
 refine ⟨fun L hL=> ?_,?_,?_⟩
 · rcases List.mem_append.1 hL with hL|hL
   · exact h1 L (List.mem_append.2 (Or.inl hL))
   · rcases List.mem_cons.1 hL with rfl|hL
     · exact hs
     · exact h1 L (List.mem_append.2 (Or.inr (List.mem_cons_of_mem _ (List.mem_cons_of_mem _ hL))))
 · rw [List.pairwise_append,List.pairwise_cons]
   refine ⟨p1,⟨fun t ht x hx z hz=> ?_,p4⟩,fun d hd t ht x hx z hz=> ?_⟩
   · rcases hm x hx with hx|hx
     · exact p2 t (List.mem_cons_of_mem _ ht) x hx z hz
     · exact p3 t ht x hx z hz
   · rcases List.mem_cons.1 ht with rfl|ht
     · rcases hm z hz with hz|hz
       · exact p5 d hd A (by simp) x hx z hz
       · exact p5 d hd Z (by simp) x hx z hz
     · exact p5 d hd t (List.mem_cons_of_mem _ (List.mem_cons_of_mem _ ht)) x hx z hz
 · refine List.Perm.trans ?_ h3
   simp only [List.flatten_append,List.flatten_cons,←List.append_assoc];refine List.Perm.append_right _ ?_;rw [List.append_assoc];exact List.Perm.append_left _ hM
theorem vF {X Y:List Wt} {Ds:List (List Wt)} {a k:Nat} (h:Blk (X.take a) Ds) (hY:Y.Perm ((X.drop a).take k)) (hs:Y.Pairwise ltT) (ht:X.Pairwise fun x y=>x.tg<y.tg):Blk (X.take (a+k)) (Ds++[Y]):=by
 obtain ⟨h1,h2,h3⟩:=h
 have hp:∀ x ∈ X.take a,∀ z ∈ X.drop a,x.tg<z.tg:=by
  rw [←List.take_append_drop a X,List.pairwise_append] at ht;exact ht.2.2
 refine ⟨fun L hL=> ?_,?_,?_⟩
 · rcases List.mem_append.1 hL with hL|hL
   · exact h1 L hL
   · rw [List.mem_singleton.1 hL]
     exact hs
 · rw [List.pairwise_append]
   refine ⟨h2,List.pairwise_singleton _ _,fun d hd t ht x hx z hz=> ?_⟩;rw [List.mem_singleton] at ht;subst ht;exact hp x (h3.mem_iff.1 (List.mem_flatten.2 ⟨d,hd,hx⟩)) z (List.mem_of_mem_take (hY.mem_iff.1 hz))
 · rw [List.flatten_append,List.flatten_singleton,List.take_add]
   exact h3.append hY
theorem hI {c:Nat} (hc:0<c):∀ {Ds Ts:List (List Wt)},(∀ D ∈ Ds,D.length=c)→hF c Ts→hF c (Ds++Ts)
 |[],Ts,_,h=>h
 |[D],[],hd,_=>by
  have e:=hd D (by simp);exact ⟨by omega,by omega⟩
 |[D],T::Ts,hd,h=>⟨hd D (by simp),h⟩
 |D::D'::Ds,Ts,hd,h=>⟨hd D (by simp),hI hc (Ds:=D'::Ds) (fun x hx=>hd x (List.mem_cons_of_mem _ hx)) h⟩
theorem GK {c:Nat} {L:List Wt} (hc:0<c):∀ {r:List (List Wt)},hF c (L::r)→0<L.length∧L.length≤c
 |[],h=>h
 |_::_,h=>⟨by have:=h.1;omega,by have:=h.1;omega⟩
theorem GL {c:Nat} (hc:0<c):∀ {Ts:List (List Wt)},hF c Ts→2*c≤Ts.flatten.length→∃ A Z r,Ts=A::Z::r∧A.length=c∧Z.length=c∧hF c r
 |[],_,h2=>by simp at h2;omega
 |[L],h,h2=>by
  have e:=h.2
  simp at h2
  omega
 |[A,Z],h,h2=>by
  have e1:=h.1;have e2:=h.2.2
  simp at h2
  exact ⟨A,Z,[],rfl,e1,by omega,trivial⟩
 |A::Z::L::r,h,_=>⟨A,Z,L::r,rfl,h.1,h.2.1,h.2.2⟩
theorem qQ {c:Nat}:∀ {Ts:List (List Wt)},hF c Ts→Ts.flatten.length<2*c→(Ts.flatten.length≤c∧hF (2*c) Ts)∨∃ A Z,Ts=[A,Z]∧A.length=c∧0<Z.length∧Z.length≤c
 |[],_,_=>Or.inl ⟨by simp,trivial⟩
 |[L],h,_=>Or.inl ⟨by simpa using h.2,h.1,by have:=h.2;omega⟩
 |[A,Z],h,_=>Or.inr ⟨A,Z,rfl,h.1,h.2.1,h.2.2⟩
 |A::Z::L::r,h,h2=>by
  have e1:=h.1;have e2:=h.2.1
  simp at h2
  omega
theorem GM {c:Nat} (hc:0<c) {X:List Wt}:∀ {Ts:List (List Wt)},hF c Ts→Blk X Ts→Ts.flatten.length≤c→Ts.flatten.Pairwise ltT
 |[],_,_,_=>List.Pairwise.nil
 |[L],_,hb,_=>by simpa using hb.1 L (by simp)
 |A::Z::r,h,_,h2=>by
  have e1:=h.1;have e2:=(GK hc h.2).1
  simp at h2
  omega
def StA (w:World) (B g n cap:Nat) (X:List Wt) (a:Nat) (W:World):Prop:=∃ Ds:List (List Wt),Blk (X.take a) Ds∧(∀ D ∈ Ds,D.length=20)∧SW w B g n cap (Ds.flatten++X.drop a) W
def StC (w:World) (B g n cap:Nat) (X:List Wt) (c:Nat) (W:World):Prop:=∃ Ls:List (List Wt),Blk X Ls∧hF c Ls∧SW w B g n cap Ls.flatten W
def StM (w:World) (B g n cap:Nat) (X:List Wt) (c a:Nat) (W:World):Prop:=∃ Ds Ts:List (List Wt),Blk X (Ds++Ts)∧(∀ D ∈ Ds,D.length=2*c)∧hF c Ts∧Ds.flatten.length=a∧SW w B g n cap (Ds.flatten++Ts.flatten) W
theorem GN {w W:World} {B g n cap a b:Nat} {X:List Wt} (hn:n≤1000000000) (hX:X.length=n) (ht:X.Pairwise fun x y=>x.tg<y.tg) (he:b=a+20) (hb:b≤n) (h:StA w B g n cap X a W):
 Calls Tryz.prog 256 #[.slice (some ⟨g,0,none⟩) n cap,.int .i64 a,.int .i64 b,.func (.func 242) #[] #[]] W fun e w'=>e= .returned (.tuple #[])∧StA w B g n cap X b w':=by
 obtain ⟨Ds,h1,h2,h3⟩:=h;have hl:Ds.flatten.length=a:=by rw [h1.2.2.length_eq,List.length_take];omega
 have e1:Ds.flatten++X.drop a=Ds.flatten++(X.drop a).take 20++X.drop (a+20):=by
  rw [List.append_assoc,←List.drop_drop,List.take_append_drop]
 rw [e1] at h3;subst he;refine (oB (P:=Ds.flatten) (X:=(X.drop a).take 20) (R:=X.drop (a+20)) hn hl (by rw [List.length_take,List.length_drop];omega) h3.1 (ht.sublist ((List.take_sublist _ _).trans (List.drop_sublist _ _)))).mono ?_;rintro e w' ⟨q1,Y,q2,q3,q4⟩;refine ⟨q1,Ds++[Y],vF h1 q2 q3 ht,fun D hD=> ?_,?_⟩
 · rcases List.mem_append.1 hD with hD|hD
   · exact h2 D hD
   · rw [List.mem_singleton.1 hD,q2.length_eq,List.length_take,List.length_drop]
     omega
 · have e2:=h3.then q4
   rw [List.flatten_append,List.flatten_singleton];exact e2
theorem GO {w W:World} {B g n cap a:Nat} {X:List Wt} (hn:n≤1000000000) (hX:X.length=n) (ht:X.Pairwise fun x y=>x.tg<y.tg) (ha:a≤n) (hb:n<a+20) (h:StA w B g n cap X a W):
 Calls Tryz.prog 256 #[.slice (some ⟨g,0,none⟩) n cap,.int .i64 a,.int .i64 n,.func (.func 242) #[] #[]] W fun e w'=>e= .returned (.tuple #[])∧StC w B g n cap X 20 w':=by
 obtain ⟨Ds,h1,h2,h3⟩:=h;have hl:Ds.flatten.length=a:=by rw [h1.2.2.length_eq,List.length_take];omega
 have e1:Ds.flatten++X.drop a=Ds.flatten++X.drop a++[]:=(List.append_nil _).symm;rw [e1] at h3;refine (oB (P:=Ds.flatten) (X:=X.drop a) (R:=[]) hn hl (by rw [List.length_drop];omega) h3.1 (ht.sublist (List.drop_sublist _ _))).mono ?_;rintro e w' ⟨q1,Y,q2,q3,q4⟩;have e2:=h3.then q4
 rw [List.append_nil] at e2;have hk:(X.drop a).take (n - a)=X.drop a:=List.take_of_length_le (by rw [List.length_drop];omega);have hx:X.take (a+(n - a))=X:=List.take_of_length_le (by omega)
 have hb2:Blk X (Ds++[Y]):=by
  have q:=vF (k:=n - a) h1 (by rw [hk];exact q2) q3 ht
  rwa [hx] at q
 by_cases hy:Y=[]
 · subst hy
   refine ⟨q1,Ds,⟨fun L hL=>hb2.1 L (List.mem_append.2 (Or.inl hL)),(List.pairwise_append.1 hb2.2.1).1,by simpa using hb2.2.2⟩,?_,by simpa using e2⟩;have q:=hI (c:=20) (by omega) h2 (Ts:=[]) trivial
   rwa [List.append_nil] at q
 · refine ⟨q1,Ds++[Y],hb2,hI (by omega) h2 ⟨List.length_pos_iff.2 hy,by rw [q2.length_eq,List.length_drop];omega⟩,?_⟩
   rw [List.flatten_append,List.flatten_singleton];exact e2
theorem CZ {w W:World} {B g n cap c:Nat} {X:List Wt} (h:StC w B g n cap X c W):StM w B g n cap X c 0 W:=by
 obtain ⟨Ls,h1,h2,h3⟩:=h;exact ⟨[],Ls,h1,fun D hD=>(by cases hD),h2,rfl,h3⟩
theorem GP {w W:World} {B g n cap a m b c:Nat} {X:List Wt} (hn:n≤1000000000) (hc:0<c) (hm:m=a+c) (he:b=a+2*c) (hb:b≤n) (h:StM w B g n cap X c a W):
 Calls Tryz.prog 257 #[.slice (some ⟨g,0,none⟩) n cap,.int .i64 a,.int .i64 m,.int .i64 b,.func (.func 242) #[] #[]] W fun e w'=>e= .returned (.tuple #[])∧StM w B g n cap X c b w':=by
 obtain ⟨Ds,Ts,h1,h2,h3,h4,h5⟩:=h;have hl:=h5.1.1;rw [List.length_append] at hl;obtain ⟨A,Z,r,rfl,hA,hZ,hr⟩:=GL hc h3 (by omega);have e1:Ds.flatten++(A::Z::r).flatten=Ds.flatten++A++Z++r.flatten:=by simp
 rw [e1] at h5;have hp:=(List.pairwise_append.1 h1.2.1).2.1;refine (gJ hn (A.length+Z.length+1) W Ds.flatten A Z r.flatten a m b (by omega) h4 (by omega) (by omega) (List.length_pos_iff.1 (by omega)) (List.length_pos_iff.1 (by omega)) (h1.1 A (by simp)) (h1.1 Z (by simp)) ((List.pairwise_cons.1 hp).1 Z (by simp)) h5.1).mono ?_;rintro e w' ⟨q1,M,q2,q3,q4⟩;have hb1:=qP h1 q2 q3;refine ⟨q1,Ds++[M],r,by simpa using hb1,fun D hD=> ?_,hr,?_,?_⟩
 · rcases List.mem_append.1 hD with hD|hD
   · exact h2 D hD
   · rw [List.mem_singleton.1 hD,q2.length_eq,List.length_append]
     omega
 · rw [List.flatten_append,List.flatten_singleton,List.length_append,q2.length_eq,List.length_append]
   omega
 · have e2:=h5.then q4
   rw [List.flatten_append,List.flatten_singleton];exact e2
theorem GQ {w W:World} {B g n cap a m c:Nat} {X:List Wt} (hn:n≤1000000000) (hc:0<c) (hm:m=a+c) (hb:n<a+2*c) (hmn:m<n) (h:StM w B g n cap X c a W):
 Calls Tryz.prog 257 #[.slice (some ⟨g,0,none⟩) n cap,.int .i64 a,.int .i64 m,.int .i64 n,.func (.func 242) #[] #[]] W fun e w'=>e= .returned (.tuple #[])∧StC w B g n cap X (2*c) w':=by
 obtain ⟨Ds,Ts,h1,h2,h3,h4,h5⟩:=h;have hl:=h5.1.1;rw [List.length_append] at hl
 rcases qQ h3 (by omega) with ⟨h6,_⟩|⟨A,Z,rfl,hA,hZ,hZ2⟩
 · omega
 have e1:Ds.flatten++[A,Z].flatten=Ds.flatten++A++Z++[]:=by simp
 have hl2:[A,Z].flatten.length=A.length+Z.length:=by simp
 rw [e1] at h5;have hp:=(List.pairwise_append.1 h1.2.1).2.1;refine (gJ hn (A.length+Z.length+1) W Ds.flatten A Z [] a m n (by omega) h4 (by omega) (by omega) (List.length_pos_iff.1 (by omega)) (List.length_pos_iff.1 (by omega)) (h1.1 A (by simp)) (h1.1 Z (by simp)) ((List.pairwise_cons.1 hp).1 Z (by simp)) h5.1).mono ?_;rintro e w' ⟨q1,M,q2,q3,q4⟩;have hb1:=qP h1 q2 q3;have hM:=q2.length_eq;rw [List.length_append] at hM;refine ⟨q1,Ds++[M],hb1,hI (by omega) h2 ⟨by omega,by omega⟩,?_⟩;have e2:=h5.then q4
 rw [List.append_nil] at e2;rw [List.flatten_append,List.flatten_singleton];exact e2
theorem GR {w W:World} {B g n cap a c:Nat} {X:List Wt} (hc:0<c) (hb:n<a+2*c) (hmn:n≤a+c) (h:StM w B g n cap X c a W):StC w B g n cap X (2*c) W:=by
 obtain ⟨Ds,Ts,h1,h2,h3,h4,h5⟩:=h;have hl:=h5.1.1;rw [List.length_append] at hl
 rcases qQ h3 (by omega) with ⟨_,h6⟩|⟨A,Z,rfl,hA,hZ,hZ2⟩
 · exact ⟨Ds++Ts,h1,hI (by omega) h2 h6,by rw [List.flatten_append];exact h5⟩
 · have hl2:[A,Z].flatten.length=A.length+Z.length:=by simp
   omega
theorem KX {w W:World} {B g n cap c:Nat} {X:List Wt} (hc:0<c) (hcn:n≤c) (h:StC w B g n cap X c W):∃ Y:List Wt,Y.Perm X∧Y.Pairwise ltT∧SW w B g n cap Y W:=by
 obtain ⟨Ls,h1,h2,h3⟩:=h;exact ⟨_,h1.2.2,GM hc h2 h1 (by rw [h3.1.1];exact hcn),h3⟩
theorem w64 {x:Int} (h0:0≤x) (h1:x≤9000000000):IntKind.i64.wrap x=x∧wrap64 x=x:=by
 refine ⟨?_,?_⟩
 · simp [IntKind.wrap,IntKind.bits,IntKind.signed];omega
 · unfold wrap64;omega
def StQ (w:World) (B g n cap:Nat) (X:List Wt) (e:Ending) (w':World):Prop:=e= .returned (.tuple #[])∧∃ Y:List Wt,Y.Perm X∧Y.Pairwise ltT∧SW w B g n cap Y w'
set_option maxHeartbeats 12800000 in
theorem xR {w:World} {B g n cap:Nat} {X:List Wt} (hn:n≤1000000000) (h:RowW w B g n cap X) (ht:X.Pairwise fun x y=>x.tg<y.tg):
 Calls Tryz.prog 250 #[.slice (some ⟨g,0,none⟩) n cap,.int .i64 n,.func (.func 242) #[] #[]] w (StQ w B g n cap X):=by
 have HST:Hid (StA w B g n cap X 0 w):=⟨[],⟨fun L hL=>(by cases hL),List.Pairwise.nil,(by simp)⟩,fun D hD=>(by cases hD),by rw [List.flatten_nil,List.nil_append,List.drop_zero];exact ⟨h,⟨rfl,rfl,rfl,Nat.le_refl _,fun _ _ _=>rfl⟩⟩⟩;have HIS:Hid (∀ W (a b:Nat),b=a+20→b≤n→StA w B g n cap X a W→Calls Tryz.prog 256 #[.slice (some ⟨g,0,none⟩) n cap,.int .i64 a,.int .i64 b,.func (.func 242) #[] #[]] W fun e w'=>e= .returned (.tuple #[])∧StA w B g n cap X b w'):=fun W a b h1 h2 h3=>GN hn h.1 ht h1 h2 h3
 have HIL:Hid (∀ W (a:Nat),a≤n→n<a+20→StA w B g n cap X a W→Calls Tryz.prog 256 #[.slice (some ⟨g,0,none⟩) n cap,.int .i64 a,.int .i64 n,.func (.func 242) #[] #[]] W fun e w'=>e= .returned (.tuple #[])∧StC w B g n cap X 20 w'):=fun W a h1 h2 h3=>GO hn h.1 ht h1 h2 h3
 have HMS:Hid (∀ W (a b c:Nat),0<c→b=a+2*c→b≤n→StM w B g n cap X c a W→Calls Tryz.prog 257 #[.slice (some ⟨g,0,none⟩) n cap,.int .i64 a,.int .i64 ((a:Int)+(c:Int)),.int .i64 b,.func (.func 242) #[] #[]] W fun e w'=>e= .returned (.tuple #[])∧StM w B g n cap X c b w'):=fun W a b c h1 h3 h4 h5=>by
  have q:=GP (m:=a+c) hn h1 rfl h3 h4 h5;rw [Int.natCast_add] at q;exact q
 have HML:Hid (∀ W (a c:Nat),0<c→n<a+2*c→a+c<n→StM w B g n cap X c a W→Calls Tryz.prog 257 #[.slice (some ⟨g,0,none⟩) n cap,.int .i64 a,.int .i64 ((a:Int)+(c:Int)),.int .i64 n,.func (.func 242) #[] #[]] W fun e w'=>e= .returned (.tuple #[])∧StC w B g n cap X (2*c) w'):=fun W a c h1 h3 h4 h5=>by
  have q:=GQ (m:=a+c) hn h1 rfl h3 h4 h5;rw [Int.natCast_add] at q;exact q
 have HMN:Hid (∀ W (a c:Nat),0<c→n<a+2*c→n≤a+c→StM w B g n cap X c a W→StC w B g n cap X (2*c) W):=fun W a c h1 h2 h3 h4=>GR h1 h2 h3 h4
 have HM0:Hid (∀ W (c:Nat),StC w B g n cap X c W→StM w B g n cap X c 0 W):=fun W c h1=>CZ h1
 have HCE:Hid (∀ W (c:Nat),0<c→n≤c→StC w B g n cap X c W→StQ w B g n cap X (.returned (.tuple #[])) W):=fun W c h1 h2 h3=>⟨rfl,KX h1 h2 h3⟩
 generalize StQ w B g n cap X=G at*;generalize StA w B g n cap X=A1 at*;generalize StC w B g n cap X=C1 at*;generalize StM w B g n cap X=M1 at*;clear h ht
 go_enter Tryz.func250,Tryz.ntmps250
 go_wp2_with fail
 go_loopw [7,8] (fun va vb wr=>∃ a b:Nat,va= .int .i64 a∧vb= .int .i64 b∧b=a+20∧a≤n∧A1 a wr) (fun va _ _=>n - (intOf va).toNat)
 case atStart=>exact ⟨0,20,rfl,rfl,rfl,Nat.zero_le _,HST.out⟩
 case round=>
  obtain ⟨a,b,rfl,rfl,hb,han,hst⟩:=hrel;have HA:=aA hst;have HB:=aA hb;clear hst hb
  by_cases hlt:b≤n
  · have hi:(b:Int)≤(n:Int):=by omega
    obtain ⟨k1,k2⟩:=w64 (x:=(b:Int)+20) (by omega) (by omega)
    go_wp2_with (go_at_call 256;refine (HIS.out _ a b HB.out hlt HA.out).mono ?_;rintro e1 w1 ⟨rfl,h1⟩;have HA1:=aA h1;clear h1)
    clear k1 k2;exact ⟨⟨b,b+20,rfl,by go_num,rfl,hlt,HA1.out⟩,by have:=HB.out;simp [intOf];omega⟩
  · have hi:¬ (b:Int)≤(n:Int):=by omega
    have hlast:n<a+20:=by have:=HB.out;omega
    clear HB
    go_wp2_with (go_at_call 256;refine (HIL.out _ a han hlast HA.out).mono ?_;rintro e1 w1 ⟨rfl,h1⟩;have HC1:=aA h1;clear h1)
    clear HA HIS HIL
    go_loopw [6,7,8] (fun vc va vb wr=>∃ c a' b':Nat,vc= .int .i64 c∧va= .int .i64 a'∧vb= .int .i64 b'∧20≤c∧c≤2000000000∧C1 c wr) (fun vc _ _ _=>n - (intOf vc).toNat)
    case atStart=>exact ⟨20,a,b,rfl,rfl,rfl,by omega,by omega,HC1.out⟩
    case round=>
     obtain ⟨c,a',b',rfl,rfl,rfl,hc20,hcn,hst⟩:=hrel;have HC:=aA hst;clear hst HC1
     by_cases hcl:c<n
     · have hci:(c:Int)<(n:Int):=by omega
       have HM:=aA (HM0.out _ _ HC.out);clear HC;obtain ⟨k1,k2⟩:=w64 (x:=2*(c:Int)) (by omega) (by omega)
       go_wp2_with fail
       clear k1 k2
       go_loopw [7,8] (fun va vb wr=>∃ a b:Nat,va= .int .i64 a∧vb= .int .i64 b∧b=a+2*c∧a≤n∧M1 c a wr) (fun va _ _=>n - (intOf va).toNat)
       case atStart=>exact ⟨0,2*c,rfl,by go_num,by omega,Nat.zero_le _,HM.out⟩
       case round=>
        obtain ⟨a,b,rfl,rfl,hb,han,hst⟩:=hrel;have HMA:=aA hst;have HB:=aA hb;clear hst HM;have hbb:b≤6000000000:=by omega
        clear hb
        by_cases hlt2:b≤n
        · have hi2:(b:Int)≤(n:Int):=by omega
          obtain ⟨k1,k2⟩:=w64 (x:=(a:Int)+(c:Int)) (by omega) (by omega);obtain ⟨k3,k4⟩:=w64 (x:=2*(c:Int)) (by omega) (by omega);obtain ⟨k5,k6⟩:=w64 (x:=(b:Int)+2*(c:Int)) (by omega) (by omega)
          go_wp2_with (go_at_call 257;refine (HMS.out _ a b c (by omega) HB.out hlt2 HMA.out).mono ?_;rintro e1 w1 ⟨rfl,h1⟩;have HA1:=aA h1;clear h1)
          clear k1 k2 k3 k4 k5 k6;exact ⟨⟨b,b+2*c,rfl,by go_num,rfl,hlt2,HA1.out⟩,by have:=HB.out;simp [intOf];omega⟩
        · have hi2:¬ (b:Int)≤(n:Int):=by omega
          have hlast2:n<a+2*c:=by have:=HB.out;omega
          clear HB;obtain ⟨k1,k2⟩:=w64 (x:=(a:Int)+(c:Int)) (by omega) (by omega);obtain ⟨k3,k4⟩:=w64 (x:=(c:Int)*2) (by omega) (by omega)
          by_cases hm:a+c<n
          · have hmi:(a:Int)+(c:Int)<(n:Int):=by omega
            go_wp2_with (go_at_call 257;refine (HML.out _ a c (by omega) hlast2 hm HMA.out).mono ?_;rintro e1 w1 ⟨rfl,h1⟩;have HA1:=aA h1;clear h1)
            clear k1 k2 k3 k4;exact ⟨⟨2*c,a,b,by go_num,rfl,rfl,by omega,by omega,HA1.out⟩,by simp [intOf];omega⟩
          · have hmi:¬ (a:Int)+(c:Int)<(n:Int):=by omega
            have HA1:=aA (HMN.out _ a c (by omega) hlast2 (by omega) HMA.out)
            go_wp2_with fail
            clear k1 k2 k3 k4;exact ⟨⟨2*c,a,b,by go_num,rfl,rfl,by omega,by omega,HA1.out⟩,by simp [intOf];omega⟩
     · have hci:¬ (c:Int)<(n:Int):=by omega
       go_wp2_with fail
       go_end0
       exact HCE.out _ _ (by omega) (by omega) HC.out
set_option maxHeartbeats 12800000 in
theorem oE {w:World} {B g n cap:Nat} {X:List Wt} (hn:n≤1000000000) (h:RowW w B g n cap X) (ht:X.Pairwise fun x y=>x.tg<y.tg):
 Calls Tryz.prog 241 #[.slice (some ⟨g,0,none⟩) n cap,.func (.func 242) #[] #[]] w (StQ w B g n cap X):=by
 have HS:Hid (Calls Tryz.prog 250 #[.slice (some ⟨g,0,none⟩) n cap,.int .i64 n,.func (.func 242) #[] #[]] w fun e w'=>e= .returned (.tuple #[])∧StQ w B g n cap X (.returned (.tuple #[])) w'):=(xR hn h ht).mono fun e w' hq=>⟨hq.1,rfl,hq.2⟩
 generalize StQ w B g n cap X=G at*;clear h ht
 go_enter Tryz.func241,Tryz.ntmps241
 go_wp2_with (go_at_call 250;refine HS.out.mono ?_;rintro e1 w1 ⟨rfl,h1⟩;have HA1:=aA h1;clear h1)
 go_end0
 exact HA1.out
theorem oF (w:World):Calls Tryz.prog 241 #[.slice none 0 0,.func (.func 242) #[] #[]] w fun e w'=>e= .returned (.tuple #[])∧w'=w:=by
 have HI:Hid (Calls Tryz.prog 256 #[.slice none 0 0,.int .i64 0,.int .i64 0,.func (.func 242) #[] #[]] w fun e w'=>e= .returned (.tuple #[])∧w'=w):=by
  unfold Hid
  go_enter Tryz.func256,Tryz.ntmps256
  go_wp2_with fail
  go_loopw [8] (fun vi wr=>vi= .int .i64 1∧wr=w) (fun _ _=>0)
  case atStart=>exact ⟨rfl,rfl⟩
  case round=>
   obtain ⟨rfl,rfl⟩:=hrel
   go_wp2_with fail
   go_end0
   exact ⟨rfl,rfl⟩
 have HS:Hid (Calls Tryz.prog 250 #[.slice none 0 0,.int .i64 0,.func (.func 242) #[] #[]] w fun e w'=>e= .returned (.tuple #[])∧w'=w):=by
  unfold Hid
  go_enter Tryz.func250,Tryz.ntmps250
  go_wp2_with fail
  go_loopw [7,8] (fun va vb wr=>va= .int .i64 0∧vb= .int .i64 20∧wr=w) (fun _ _ _=>0)
  case atStart=>exact ⟨rfl,rfl,rfl⟩
  case round=>
   obtain ⟨rfl,rfl,rfl⟩:=hrel
   go_wp2_with (go_at_call 256;refine HI.out.mono ?_;rintro e1 w1 ⟨rfl,rfl⟩)
   go_loopw [6,7,8] (fun vc va vb wq=>vc= .int .i64 20∧va= .int .i64 0∧vb= .int .i64 20∧wq=w1) (fun _ _ _ _=>0)
   case atStart=>exact ⟨rfl,rfl,rfl,rfl⟩
   case round=>
    obtain ⟨rfl,rfl,rfl,rfl⟩:=hrel
    go_wp2_with fail
    go_end0
    exact ⟨rfl,rfl⟩
 go_enter Tryz.func241,Tryz.ntmps241
 go_wp2_with (go_at_call 250;refine HS.out.mono ?_;rintro e1 w1 ⟨rfl,rfl⟩)
 go_end0
 exact ⟨rfl,rfl⟩
def RowO (w:World) (B:Nat) (v:Value) (xs:List Wt):Prop:=w.ownsRow B 161 3 v xs.length (xs.flatMap fK)
theorem RowO.nil (w:World) (B:Nat):RowO w B (.slice none 0 0) []:=⟨rfl,Or.inl ⟨rfl,rfl⟩⟩
theorem RowO.len {w:World} {B:Nat} {v:Value} {xs:List Wt} (h:RowO w B v xs):∃ ad cap,v= .slice ad xs.length cap:=by
 rcases h.2 with ⟨rfl,hn⟩|⟨g,cap,cur,rfl,_⟩
 · exact ⟨none,0,by rw [hn]⟩
 · exact ⟨_,cap,rfl⟩
theorem GS (l:List Wt):∀ u ∈ l.flatMap fK,u.oneCell'=true:=fun u hu=>by
 obtain ⟨x,_,hx⟩:=List.mem_flatMap.1 hu;simp [fK] at hx
 rcases hx with rfl|rfl|rfl<;>rfl
theorem DA (w:World) (cs:Array Value) (cap:Nat) (hc:cap≤maxLen) (hs:cs.size=cap*3):(w.drew.alloc (.cells cs 161)).ownsRow w.heap.size 161 3 (.slice (some ⟨w.heap.size,0,none⟩) 0 cap) 0 []:=
 ⟨rfl,Or.inr ⟨w.heap.size,cap,cs,rfl,Nat.le_refl _,by show (w.drew.heap.push _)[w.drew.heap.size]? =_;rw [Array.getElem?_push,if_pos rfl],Nat.zero_le _,hc,hs,by simp⟩⟩
theorem DC (n:Nat) (hn:n≤1000000000) (w:World):Calls Tryz.prog 249 #[.slice none 0 0,.int .i64 n] w fun e w'=>∃ v,e= .returned v∧RowO w' w.heap.size v []∧Below w.heap.size w w':=by
 by_cases h0:n=0
 · subst h0
   refine (Any8.slices_Grow_room Tryz.growW none 0 0 0 w (Nat.le_refl _) (by omega) (by omega) (Nat.le_refl _)).mono ?_;rintro e w' ⟨rfl,rfl⟩;exact ⟨_,rfl,RowO.nil _ _,Below.refl _ _⟩
 · obtain ⟨i0,hi,hz0,hz1,hz2⟩:=Sc.cO GD
   refine (Any8.slices_Grow_grow Tryz.growW i0 _ hi hz0 (by rw [hz1];decide) none 0 0 n [] w (Nat.le_refl _) (by omega) (by rw [hz2];omega) (by omega) (by simp) (fun _=>rfl) (fun a ha=>by cases ha)).mono ?_;rintro e w' ⟨rfl,rfl⟩;have hge:=grownCap_ge w (0+n) 0 161;refine ⟨_,rfl,DA w _ _ (grownCap_le_maxLen _ _ _ _ (by unfold maxLen;omega)) ?_,(Below.refl _ _).drew.alloc (Nat.le_refl _) _⟩;rw [Array.size_append,Array.size_append,size_zeroCells,size_zeroCells];show 0+(0+n - 0)*3+(grownCap w (0+n) 0 161 - (0+n))*3=grownCap w (0+n) 0 161*3;omega
def cL (Ls:List (Value×List Wt)):List Wt:=Ls.flatMap (·.2)
theorem oG {Ls:List (Value×List Wt)} {i:Nat} (h:i<Ls.length):cL (Ls.take (i+1))=cL (Ls.take i)++Ls[i].2:=by
 unfold cL;rw [List.take_succ_eq_append_getElem h,List.flatMap_append]
 simp
theorem oH (Ls:List (Value×List Wt)) (i:Nat):(cL (Ls.take i)).length≤(cL Ls).length:=by
 unfold cL
 conv=>rhs;rw [←List.take_append_drop i Ls,List.flatMap_append,List.length_append]
 omega
def ListsO (w:World) (B g:Nat) (Ls:List (Value×List Wt)):Prop:=g<w.heap.size∧∀ i (h:i<Ls.length),w.cell? ⟨g,i,none⟩=some Ls[i].1∧RowO w B Ls[i].1 Ls[i].2
theorem ListsO.below {w w':World} {B g:Nat} {Ls:List (Value×List Wt)} (h:ListsO w B g Ls) (hb:Below w.heap.size w w'):ListsO w' B g Ls:=⟨Nat.lt_of_lt_of_le h.1 hb.size,fun i hi=>⟨(hb.cell (p:=⟨g,i,none⟩) h.1).trans (h.2 i hi).1,bG (h.2 i hi).2 hb⟩⟩
set_option maxHeartbeats 6400000 in
theorem vG {w:World} {B g k:Nat} {Ls:List (Value×List Wt)} (h:ListsO w B g Ls) (hk:Ls.length=k) (hk8:k≤8) (hl:(cL Ls).length≤100000000):Calls Tryz.prog 240 #[.slice (some ⟨g,0,none⟩) k k] w fun e w'=>∃ v,e= .returned v∧RowO w' w.heap.size v (cL Ls)∧Below w.heap.size w w':=by
 have HL:=aA h;have HGR:Hid (∀ n:Nat,n≤100000000→Calls Tryz.prog 249 #[.slice none 0 0,.int .i64 n] w fun e w'=>∃ v,e= .returned v∧RowO w' w.heap.size v []∧Below w.heap.size w w'):=fun n hn=>DC n (by omega) w
 have HKL:=aA hk;have hgl:=h.1;clear h hk
 go_enter Tryz.func240,Tryz.ntmps240
 go_wp2_with fail
 go_loopw [3,11] (fun vs vi wr=>wr=w∧∃ i n:Nat,i≤k∧vi= .int .i64 i∧vs= .int .i64 n∧n=(cL (Ls.take i)).length) (fun _ vi _=>k - (intOf vi).toNat)
 case atStart=>exact ⟨rfl,0,0,Nat.zero_le _,rfl,rfl,rfl⟩
 case round=>
  obtain ⟨hww,i,n,hi,rfl,rfl,hn⟩:=hrel;obtain rfl:w=wr:=hww.symm;have hnl:n≤100000000:=by rw [hn];exact Nat.le_trans (oH _ _) hl
  have HN:=aA hn;clear hn hww
  by_cases hlt:i<k
  · have hli:(i:Int)<(k:Int):=by omega
    have hiL:i<Ls.length:=by rw [HKL.out];exact hlt
    obtain ⟨c0,hr⟩:=HL.out.2 i hiL;obtain ⟨a1,k1,hv⟩:=hr.len;have HT:=aA (oG hiL);obtain ⟨m,hm⟩:∃ m,m=Ls[i].2.length:=⟨_,rfl⟩;rw [hv,←hm] at c0
    have hml:n+m≤100000000:=by
     have e:=congrArg List.length HT.out;rw [List.length_append,←HN.out,←hm] at e;rw [←e];exact Nat.le_trans (oH _ _) hl
    have HM:=aA hm;clear hm hr hv;have hnn:¬ ((n:Int)+(m:Int))<0:=by omega
    go_wp2_with fail
    exact ⟨⟨trivial,i+1,n+m,by omega,by go_num,by go_num,by rw [HT.out,List.length_append,HN.out,HM.out]⟩,by simp [intOf];omega⟩
  · obtain rfl:i=k:=by omega
    have hli:¬ (i:Int)<(i:Int):=by omega
    have HG:=aA (HGR.out n hnl);clear HGR HN
    go_wp2_with (go_at_call 249;refine HG.out.mono ?_;rintro e w2 ⟨vr,rfl,hov,hb⟩;have HV0:=aA hov;have HB0:=aA hb;obtain ⟨ar0,cr0,rfl⟩:=hov.len;clear hov hb HG)
    go_loopw [6,27] (fun vr vi wr=>∃ j:Nat,j≤i∧vi= .int .i64 j∧RowO wr w.heap.size vr (cL (Ls.take j))∧Below w.heap.size w wr) (fun _ vi _=>i - (intOf vi).toNat)
    case atStart=>exact ⟨0,Nat.zero_le _,rfl,HV0.out,HB0.out⟩
    case round=>
     obtain ⟨j,hj,rfl,hov,hb⟩:=hrel;have HB:=aA hb;obtain ⟨ar,cr,rfl⟩:=hov.len;have HR:=aA hov;clear hov hb HV0 HB0
     by_cases hlt2:j<i
     · have hlj:(j:Int)<(i:Int):=by omega
       have hjL:j<Ls.length:=by rw [HKL.out];exact hlt2
       have HT:=aA (oG hjL);have hjl:=oH Ls (j+1);obtain ⟨c0,hr⟩:=(HL.out.below HB.out).2 j hjL;obtain ⟨a1,k1,hv⟩:=hr.len
       have HS:Hid (wr.ownsRow B 161 3 (.slice a1 Ls[j].2.length k1) Ls[j].2.length (Ls[j].2.flatMap fK)):=by
        have e:=hr;rw [hv] at e;exact e
       rw [hv] at c0;obtain ⟨ys,hys⟩:∃ ys,ys=Ls[j].2:=⟨_,rfl⟩;rw [←hys] at c0 HS HT;obtain ⟨xs,hxs⟩:∃ xs,xs=cL (Ls.take j):=⟨_,rfl⟩;rw [←hxs] at HR HT;obtain ⟨n1,hn1⟩:∃ n,n=xs.length:=⟨_,rfl⟩;obtain ⟨n2,hn2⟩:∃ n,n=ys.length:=⟨_,rfl⟩
       have hsum:n1+n2≤100000000:=by
        have e:=congrArg List.length HT.out;rw [List.length_append,←hn1,←hn2] at e;omega
       have HR2:Hid (wr.ownsRow w.heap.size 161 3 (.slice ar n1 cr) n1 (xs.flatMap fK)):=by
        have e:=HR.out;unfold RowO at e;rw [←hn1] at e;rw [←hxs,←hn1] at*;exact e
       rw [←hn2] at c0 HS
       have HF:Hid (∀ u1 w4,w4.ownsRow w.heap.size 161 3 u1 (n1+n2) (xs.flatMap fK++ys.flatMap fK)→RowO w4 w.heap.size u1 (cL (Ls.take (j+1)))):=fun u1 w4 ho=>by
        unfold RowO;rw [HT.out,List.length_append,List.flatMap_append,←hn1,←hn2];exact ho
       rw [←hxs,←hn1];clear hr hv hys hxs hn1 hn2 HR HT hjl
       go_wp2_with (at_builtin;refine rV (B:=w.heap.size) (wx:=wr) (v:= .slice ar n1 cr) (x:= .slice a1 n2 k1) GD Tryz.underlying111 rfl (by decide) (by decide) rfl (.tmp 31) (.tmp 32) rfl rfl HR2.out HB.out.size rfl HS.out (GS _) (by omega) ?_;intro u1 w4 ho hgr hat;have HO4:=aA (HF.out _ _ ho);obtain ⟨g7,cap7,hu⟩:=HO4.out.len;subst hu;have HB4:Hid (Below w.heap.size w w4):=HB.out.grown hgr HB.out.size (fun k hk=>(World.ownsRow.lt HR2.out k hk).1);clear ho hgr hat)
       exact ⟨⟨j+1,by omega,by go_num,HO4.out,HB4.out⟩,by simp [intOf];omega⟩
     · obtain rfl:j=i:=by omega
       have hlj:¬ (j:Int)<(j:Int):=by omega
       have HFI:Hid (RowO wr w.heap.size (.slice ar (cL (Ls.take j)).length cr) (cL Ls)):=by
        have e:=HR.out;rw [List.take_of_length_le (by rw [HKL.out];exact Nat.le_refl _)] at*;exact e
       go_wp2
       go_ret;exact ⟨_,rfl,HFI.out,HB.out⟩
def NE (w:World) (X:List Wt) (e:Ending) (w':World):Prop:=∃ v,e= .returned v∧∃ Y:List Wt,Y.Perm X∧Y.Pairwise ltT∧RowO w' w.heap.size v Y∧Below w.heap.size w w'
set_option maxHeartbeats 6400000 in
theorem xS {w:World} {B g k:Nat} {Ls:List (Value×List Wt)} (h:ListsO w B g Ls) (hk:Ls.length=k) (hk8:k≤8) (hl:(cL Ls).length≤100000000) (ht:(cL Ls).Pairwise fun x y=>x.tg<y.tg):Calls Tryz.prog 215 #[.slice (some ⟨g,0,none⟩) k k] w (NE w (cL Ls)):=by
 have HC:=aA (vG h hk hk8 hl)
 have HS:Hid (∀ v w1,RowO w1 w.heap.size v (cL Ls)→Below w.heap.size w w1→Calls Tryz.prog 241 #[v,.func (.func 242) #[] #[]] w1 fun e w'=>e= .returned (.tuple #[])∧NE w (cL Ls) (.returned v) w'):=fun v w1 hr hb=>by
  have hr0:=hr
  rcases hr.2 with ⟨rfl,hn⟩|⟨g1,cap,cur,rfl,hB,hg,hc⟩
  · have e0:cL Ls=[]:=List.length_eq_zero_iff.1 hn
    rw [e0] at hr0 ⊢;refine (oF w1).mono ?_;rintro e w' ⟨rfl,rfl⟩;exact ⟨rfl,_,rfl,[],List.Perm.refl _,List.Pairwise.nil,hr0,hb⟩
  · refine (oE (B:=w.heap.size) (g:=g1) (n:=(cL Ls).length) (cap:=cap) (X:=cL Ls) (by omega) ⟨rfl,hr0⟩ ht).mono ?_
    rintro e w' ⟨rfl,Y,h1,h2,h3,h4⟩;refine ⟨rfl,_,rfl,Y,h1,h2,?_,hb.trans (dN h4 (fun g e=>by cases e;exact hB) hb.size)⟩;have e:=h3.2;unfold RowO;rw [h1.length_eq];exact e
 generalize NE w (cL Ls)=G at*;generalize cL Ls=X at*;clear h ht hk hk8
 go_enter Tryz.func215,Tryz.ntmps215
 go_wp2_with (first
  |(go_at_call 241;have _t:=HV;refine (HS.out _ _ HV.out HB.out).mono ?_;rintro e w2 ⟨rfl,hg⟩;have HGG:=aA hg;clear hg)
  |(go_at_call 240;refine HC.out.mono ?_;rintro e w1 ⟨v,rfl,hv,hb⟩;have HV:=aA hv;have HB:=aA hb;clear hv hb))
 exact HGG.out
def TagD (O:List Dp) (E:List (Dp×Int)) (ps:List (Wt×List Sp)):Prop:=ps.length=E.length∧∀ (i:Nat) (p:Wt×List Sp),ps[i]? =some p→∃ e:Dp×Int,E[i]? =some e∧p.1.nm=e.1.nm∧p.1.kd=e.2∧p.1.tg=i∧p.2=bV O e.1
theorem TagD.nil (O:List Dp):TagD O [] []:=⟨rfl,fun i p h=>by simp at h⟩
theorem TagD.more {O:List Dp} {E:List (Dp×Int)} {ps qs:List (Wt×List Sp)} {k:Int} {ds:List Dp} (h:TagD O E ps) (h2:eK O k E.length ds qs):TagD O (E++ds.map fun d=>(d,k)) (ps++qs):=by
 refine ⟨by rw [List.length_append,List.length_append,List.length_map,h.1,h2.1],fun i p hp=> ?_⟩
 by_cases hi:i<ps.length
 · rw [List.getElem?_append_left hi] at hp
   obtain ⟨e,h3,h4⟩:=h.2 i p hp;exact ⟨e,by rw [List.getElem?_append_left (by rw [←h.1];exact hi)];exact h3,h4⟩
 · rw [List.getElem?_append_right (by omega)] at hp
   obtain ⟨d,h3,h4,h5,h6,h7⟩:=h2.2 _ p hp;have e1:i - ps.length=i - E.length:=by rw [h.1]
   refine ⟨(d,k),?_,h4,h5,by rw [h6,e1];have:=h.1;omega,h7⟩;rw [List.getElem?_append_right (by rw [←h.1];omega),List.getElem?_map,←e1,h3];rfl
theorem TagD.tags {O:List Dp} {E:List (Dp×Int)} {ps:List (Wt×List Sp)} (h:TagD O E ps):(ps.map (·.1)).Pairwise fun x y=>x.tg<y.tg:=by
 rw [List.pairwise_map,List.pairwise_iff_getElem];intro i j hi hj hij;obtain ⟨_,_,_,_,e1,_⟩:=h.2 i _ (List.getElem?_eq_getElem hi);obtain ⟨_,_,_,_,e2,_⟩:=h.2 j _ (List.getElem?_eq_getElem hj);omega
theorem TagD.range {O:List Dp} {E:List (Dp×Int)} {ps:List (Wt×List Sp)} (h:TagD O E ps):(ps.map (·.1)).map (·.tg)=List.range E.length:=by
 apply List.ext_getElem
 · rw [List.length_map,List.length_map,List.length_range,h.1]
 · intro i h1 h2
   rw [List.length_map,List.length_map] at h1;obtain ⟨_,_,_,_,e1,_⟩:=h.2 i _ (List.getElem?_eq_getElem h1);rw [List.getElem_map,List.getElem_map,List.getElem_range,e1]
def rgT (O:List Dp) (E:List (Dp×Int)) (t:Nat):List Sp:=match E[t]? with
 |some e=>bV O e.1
 |none=>[]
def kN (O:List Dp) (E:List (Dp×Int)) (Y:List Wt):List (Wt×List Sp):=Y.map fun x=>(x,rgT O E x.tg)
theorem qR (O:List Dp) (E:List (Dp×Int)) (Y:List Wt):(kN O E Y).map (·.1)=Y:=by
 unfold kN;rw [List.map_map];exact List.map_id' Y
def dO (O:List Dp) (E:List (Dp×Int)) (w:World) (B:Nat) (v:Value) (Y:List Wt):Prop:=OwnWt w B v (kN O E Y)∧Y.Pairwise ltT∧(Y.map (·.tg)).Perm (List.range E.length)∧∀ x ∈ Y,∃ e:Dp×Int,E[x.tg]? =some e∧x.nm=e.1.nm∧x.kd=e.2
theorem KY {O:List Dp} {E:List (Dp×Int)} {ps:List (Wt×List Sp)} {w w':World} {B:Nat} {v:Value} {Y:List Wt} (h:TagD O E ps) (hr:RowO w' B v Y) (hp:Y.Perm (ps.map (·.1))) (hs:Y.Pairwise ltT) (ho:∀ p ∈ ps,OwnS w B p.1.rs p.2) (ha:ps.Pairwise fun p q=>ApartR p.1 q.1) (hb:Below w.heap.size w w'):dO O E w' B v Y:=by
 have hx:∀ x ∈ Y,∃ e:Dp×Int,E[x.tg]? =some e∧x.nm=e.1.nm∧x.kd=e.2∧OwnS w B x.rs (bV O e.1):=fun x hx=>by
  obtain ⟨p,hp1,rfl⟩:=List.mem_map.1 (hp.mem_iff.1 hx);obtain ⟨i,hi,rfl⟩:=List.getElem_of_mem hp1;obtain ⟨e,h1,h2,h3,h4,h5⟩:=h.2 i _ (List.getElem?_eq_getElem hi);exact ⟨e,by rw [h4];exact h1,h2,h3,h5 ▸ ho _ hp1⟩
 refine ⟨⟨?_,fun p hp=> ?_,?_⟩,hs,?_,fun x hx'=> ?_⟩
 · rw [qR]
   have e:(kN O E Y).length=Y.length:=by unfold kN;rw [List.length_map]
   rw [e];exact hr
 · obtain ⟨x,hx1,rfl⟩:=List.mem_map.1 hp
   obtain ⟨e,h1,_,_,h4⟩:=hx x hx1;have e2:rgT O E x.tg=bV O e.1:=by unfold rgT;rw [h1]
   show OwnS w' B x.rs (rgT O E x.tg);rw [e2];exact h4.below hb
 · unfold kN
   rw [List.pairwise_map];refine (hp.pairwise_iff (fun {a b}=>ApartR.symm)).2 ?_;rw [List.pairwise_map];exact ha
 · have e:=hp.map (·.tg)
   rw [h.range] at e;exact e
 · obtain ⟨e,h1,h2,h3,_⟩:=hx x hx'
   exact ⟨e,h1,h2,h3⟩
theorem zY {w7:World} {B k:Nat} {O:List Dp} {E:List (Dp×Int)} {Ls:List (Value×List (Wt×List Sp))} (hs:∀ L ∈ Ls,OwnWt w7 B L.1 L.2) (ha:(Ls.flatMap (·.2)).Pairwise fun p q=>ApartR p.1 q.1) (ht:TagD O E (Ls.flatMap (·.2))) (hl:E.length≤100000000) (hk:Ls.length=k) (hk8:k≤8) (hB:B≤w7.heap.size):Calls Tryz.prog 215 #[.slice (some ⟨w7.heap.size,0,none⟩) k k] (w7.alloc (.cells (Ls.map (·.1)).toArray 111)) fun e w'=>∃ v,e= .returned v∧∃ Y,dO O E w' B v Y∧Below w7.heap.size w7 w':=by
 have hb:Below w7.heap.size w7 (w7.alloc (.cells (Ls.map (·.1)).toArray 111)):=aD _ _
 have hj:cL (Ls.map fun L=>(L.1,L.2.map (·.1)))=(Ls.flatMap (·.2)).map (·.1):=by
  unfold cL;rw [List.flatMap_map,List.map_flatMap]
 have hlo:ListsO (w7.alloc (.cells (Ls.map (·.1)).toArray 111)) B w7.heap.size (Ls.map fun L=>(L.1,L.2.map (·.1))):=by
  refine ⟨by simp,fun i hi=>⟨?_,?_⟩⟩
  · rw [List.length_map] at hi
    rw [List.getElem_map];exact (aY rfl (by simp [List.getElem?_eq_getElem hi])).1
  · rw [List.length_map] at hi
    rw [List.getElem_map];have q:=bG (hs _ (List.getElem_mem hi)).1 hb;have e:Ls[i].2.length=(Ls[i].2.map (·.1)).length:=(List.length_map _).symm;rw [e] at q;exact q
 refine (xS hlo (by rw [List.length_map];exact hk) hk8 (by rw [hj,List.length_map,ht.1];exact hl) (by rw [hj];exact ht.tags)).mono ?_;rintro e w' ⟨v,rfl,Y,h1,h2,h3,h4⟩;rw [hj] at h1;refine ⟨v,rfl,Y,?_,aB hb h4⟩;refine KY (w:=w7.alloc (.cells (Ls.map (·.1)).toArray 111)) ht (bZ h3 (Nat.le_trans hB hb.size)) h1 h2 (fun p hp=> ?_) ha h4;obtain ⟨L,hL,hp⟩:=List.mem_flatMap.1 hp;exact ((hs L hL).2.1 p hp).below hb
theorem iI {w6 w7:World} {B:Nat} {ps qs:List (Wt×List Sp)} {v v':Value} (h:OwnWt w6 B v ps) (h':OwnWt w7 w6.heap.size v' qs):∀ p ∈ ps,∀ q ∈ qs,ApartR p.1 q.1:=fun p hp q hq=>qM h (h'.2.1 q hq) p hp
def ofE (ds1 ds3:List Dp):List (Dp×Int):=ds1.map (fun d=>(d,1))++ds3.map (fun d=>(d,2))
theorem KZ {w6 w7:World} {B:Nat} {O ds1 ds3:List Dp} {v1 v2:Value} {ps qs:List (Wt×List Sp)} (hB:B≤w6.heap.size) (h1:OwnWt w6 B v1 ps) (t1:eK O 1 0 ds1 ps) (h2:OwnWt w7 w6.heap.size v2 qs) (t2:eK O 2 ds1.length ds3 qs) (hb:Below w6.heap.size w6 w7) (hl:ds1.length+ds3.length≤100000000):Calls Tryz.prog 215 #[.slice (some ⟨w7.heap.size,0,none⟩) 2 2] (w7.alloc (.cells #[v1,v2] 111)) fun e w'=>∃ v,e= .returned v∧∃ Y,dO O (ofE ds1 ds3) w' B v Y∧Below w7.heap.size w7 w':=by
 have e0:[(v1,ps),(v2,qs)].flatMap (·.2)=ps++qs:=by simp
 have t0:=(TagD.nil O).more (k:=1) (ds:=ds1) (qs:=ps) t1;rw [List.nil_append,List.nil_append] at t0;have t3:=t0.more (k:=2) (ds:=ds3) (qs:=qs) (by rw [List.length_map];exact t2);refine zY (Ls:=[(v1,ps),(v2,qs)]) (E:=ofE ds1 ds3) (fun L hL=> ?_) ?_ ?_ (by unfold ofE;rw [List.length_append,List.length_map,List.length_map];exact hl) rfl (by omega) (Nat.le_trans hB hb.size)
 · simp at hL
   rcases hL with rfl|rfl
   · exact h1.below hb
   · exact h2.base hB
 · rw [e0,List.pairwise_append]
   exact ⟨h1.2.2,h2.2.2,iI h1 h2⟩
 · rw [e0]
   exact t3
set_option maxHeartbeats 12800000 in
theorem NF {w:World} {O:List Dp} {x1 x2 x3:Option Addr} {y1 y2 y3 z1 z2 z3:Nat} {v4:Value} (h:DepsAt w v4 O) (hlen:O.length≤9223372036854775807) (hn:∀ d ∈ O,d.nm.size≤9223372036854775807) {ds1 ds3:List Dp} (nm:ByteArray) (a b c:Int) {p1 p2 p3:Option Addr} {r1 q2 r2 r3:Nat} (hp1:DepsAt w (.slice p1 ds1.length r1) ds1) (hp3:DepsAt w (.slice p3 ds3.length r3) ds3) (hf1:lM O ds1) (hf3:lM O ds3) (hl:ds1.length+ds3.length≤100000000):Calls Tryz.prog 166 #[.agg #[.string nm,.int .i64 a,.int .i64 b,.int .i64 c,.slice p1 ds1.length r1,.slice p2 q2 r2,.slice p3 ds3.length r3],.agg #[.slice x1 y1 z1,.slice x2 y2 z2,.slice x3 y3 z3,v4]] w fun e w'=>∃ v,e= .returned v∧∃ Y,dO O (ofE ds1 ds3) w' w.heap.size v Y∧Below w.heap.size w w':=by
 obtain ⟨ad,cap,rfl,hcap,_⟩:=h.el;have HB0:Hid (Below w.heap.size w ((w.alloc (.cells #[.string nm,.int .i64 a,.int .i64 b,.int .i64 c,.slice p1 ds1.length r1,.slice p2 q2 r2,.slice p3 ds3.length r3] 34)).alloc (.cells #[.slice x1 y1 z1,.slice x2 y2 z2,.slice x3 y3 z3,.slice ad O.length cap] 57))):=aR _ _ _
 have HOV:Hid (Calls Tryz.prog 213 #[.agg #[.slice x1 y1 z1,.slice x2 y2 z2,.slice x3 y3 z3,.slice ad O.length cap]] ((w.alloc (.cells #[.string nm,.int .i64 a,.int .i64 b,.int .i64 c,.slice p1 ds1.length r1,.slice p2 q2 r2,.slice p3 ds3.length r3] 34)).alloc (.cells #[.slice x1 y1 z1,.slice x2 y2 z2,.slice x3 y3 z3,.slice ad O.length cap] 57)) fun e w'=>∃ M,e= .returned (.agg #[.slice ad O.length cap,.map (some M)])∧(∃ n,SmAt w' M n (.int .i64 0) (aJ O))∧Below ((w.alloc (.cells #[.string nm,.int .i64 a,.int .i64 b,.int .i64 c,.slice p1 ds1.length r1,.slice p2 q2 r2,.slice p3 ds3.length r3] 34)).alloc (.cells #[.slice x1 y1 z1,.slice x2 y2 z2,.slice x3 y3 z3,.slice ad O.length cap] 57)).heap.size ((w.alloc (.cells #[.string nm,.int .i64 a,.int .i64 b,.int .i64 c,.slice p1 ds1.length r1,.slice p2 q2 r2,.slice p3 ds3.length r3] 34)).alloc (.cells #[.slice x1 y1 z1,.slice x2 y2 z2,.slice x3 y3 z3,.slice ad O.length cap] 57)) w'):=(rX (h.below HB0.out) hlen hn).mono fun e w' ⟨h1,h2,h3⟩=>⟨_,h1,h2,h3⟩
 have HOW:=aA h;have HD1:=aA hp1;have HD3:=aA hp3;have b0:((w.alloc (.cells #[.string nm,.int .i64 a,.int .i64 b,.int .i64 c,.slice p1 ds1.length r1,.slice p2 q2 r2,.slice p3 ds3.length r3] 34)).alloc (.cells #[.slice x1 y1 z1,.slice x2 y2 z2,.slice x3 y3 z3,.slice ad O.length cap] 57)).cell? ⟨w.heap.size,4,none⟩=some (.slice p1 ds1.length r1):=by simp
 have b6:((w.alloc (.cells #[.string nm,.int .i64 a,.int .i64 b,.int .i64 c,.slice p1 ds1.length r1,.slice p2 q2 r2,.slice p3 ds3.length r3] 34)).alloc (.cells #[.slice x1 y1 z1,.slice x2 y2 z2,.slice x3 y3 z3,.slice ad O.length cap] 57)).cell? ⟨w.heap.size,6,none⟩=some (.slice p3 ds3.length r3):=by simp
 have hbl0:w.heap.size<((w.alloc (.cells #[.string nm,.int .i64 a,.int .i64 b,.int .i64 c,.slice p1 ds1.length r1,.slice p2 q2 r2,.slice p3 ds3.length r3] 34)).alloc (.cells #[.slice x1 y1 z1,.slice x2 y2 z2,.slice x3 y3 z3,.slice ad O.length cap] 57)).heap.size:=by simp;omega
 have HFF:Hid (lM O ds1∧lM O ds3∧ds1.length+ds3.length≤100000000):=⟨hf1,hf3,hl⟩;clear h hp1 hp3 hf1 hf3 hl hn
 go_enter Tryz.func166,Tryz.ntmps166
 go_upto_region 1 with fail
 have e0:((w.alloc (.cells #[.string nm,.int .i64 a,.int .i64 b,.int .i64 c,.slice p1 ds1.length r1,.slice p2 q2 r2,.slice p3 ds3.length r3] 34)).alloc (.cells #[.slice x1 y1 z1,.slice x2 y2 z2,.slice x3 y3 z3,.slice ad O.length cap] 57)).cell? ⟨w.heap.size+1,0,none⟩=some (.slice x1 y1 z1):=(aY (by simp) rfl).1;have e1:((w.alloc (.cells #[.string nm,.int .i64 a,.int .i64 b,.int .i64 c,.slice p1 ds1.length r1,.slice p2 q2 r2,.slice p3 ds3.length r3] 34)).alloc (.cells #[.slice x1 y1 z1,.slice x2 y2 z2,.slice x3 y3 z3,.slice ad O.length cap] 57)).cell? ⟨w.heap.size+1,1,none⟩=some (.slice x2 y2 z2):=(aY (by simp) rfl).1
 have e2:((w.alloc (.cells #[.string nm,.int .i64 a,.int .i64 b,.int .i64 c,.slice p1 ds1.length r1,.slice p2 q2 r2,.slice p3 ds3.length r3] 34)).alloc (.cells #[.slice x1 y1 z1,.slice x2 y2 z2,.slice x3 y3 z3,.slice ad O.length cap] 57)).cell? ⟨w.heap.size+1,2,none⟩=some (.slice x3 y3 z3):=(aY (by simp) rfl).1;have e3:((w.alloc (.cells #[.string nm,.int .i64 a,.int .i64 b,.int .i64 c,.slice p1 ds1.length r1,.slice p2 q2 r2,.slice p3 ds3.length r3] 34)).alloc (.cells #[.slice x1 y1 z1,.slice x2 y2 z2,.slice x3 y3 z3,.slice ad O.length cap] 57)).cell? ⟨w.heap.size+1,3,none⟩=some (.slice ad O.length cap):=(aY (by simp) rfl).1;generalize ((w.alloc (.cells #[.string nm,.int .i64 a,.int .i64 b,.int .i64 c,.slice p1 ds1.length r1,.slice p2 q2 r2,.slice p3 ds3.length r3] 34)).alloc (.cells #[.slice x1 y1 z1,.slice x2 y2 z2,.slice x3 y3 z3,.slice ad O.length cap] 57))=WA at*
 go_upto_region 2 with (go_at_call 213;refine HOV.out.mono ?_;rintro e w1 ⟨M,rfl,⟨n,hsm⟩,hb1⟩;have HSM:=aA hsm;have HB1:=aA hb1;clear hsm hb1)
 have HWW:Hid (Below WA.heap.size WA (w1.alloc (.cells #[.slice ad O.length cap,.map (some M)] 249))):=aB HB1.out (aD _ _);obtain ⟨N0,hN0⟩:∃ k,k=w.heap.size:=⟨_,rfl⟩;have b1:=(HWW.out.cell (p:=⟨w.heap.size,4,none⟩) hbl0).trans b0;have b7:=(HWW.out.cell (p:=⟨w.heap.size,6,none⟩) hbl0).trans b6;have hNl:N0<(w1.alloc (.cells #[.slice ad O.length cap,.map (some M)] 249)).heap.size:=by rw [hN0];exact Nat.lt_of_lt_of_le hbl0 HWW.out.size
 rw [←hN0] at b1 b7;have HSW:Hid (SmAt (w1.alloc (.cells #[.slice ad O.length cap,.map (some M)] 249)) M n (.int .i64 0) (aJ O)):=HSM.out.below (aD _ _);have k0:(w1.alloc (.cells #[.slice ad O.length cap,.map (some M)] 249)).cell? ⟨w1.heap.size,0,none⟩=some (.slice ad O.length cap):=by simp
 have k1:(w1.alloc (.cells #[.slice ad O.length cap,.map (some M)] 249)).cell? ⟨w1.heap.size,1,none⟩=some (.map (some M)):=by simp
 have hkl:w1.heap.size<(w1.alloc (.cells #[.slice ad O.length cap,.map (some M)] 249)).heap.size:=by simp
 have HOV2:Hid (Below w.heap.size w (w1.alloc (.cells #[.slice ad O.length cap,.map (some M)] 249))):=aB HB0.out HWW.out;obtain ⟨KB,hKB⟩:∃ k,k=w1.heap.size:=⟨_,rfl⟩;rw [←hKB] at k0 k1 hkl;rw [←hKB,←hN0];generalize (w1.alloc (.cells #[.slice ad O.length cap,.map (some M)] 249))=W at*;have HKD:Hid (KeepP fun X=>(Below W.heap.size W X∧SmAt X M n (.int .i64 0) (aJ O))∧DepsAt X (.slice ad O.length cap) O∧DepsAt X (.slice p1 ds1.length r1) ds1∧DepsAt X (.slice p3 ds3.length r3) ds3):=fun p q hx hpq=>⟨⟨aB hx.1.1 hpq,hx.1.2.below hpq⟩,hx.2.1.below hpq,hx.2.2.1.below hpq,hx.2.2.2.below hpq⟩
 have HO0:Hid ((Below W.heap.size W W∧SmAt W M n (.int .i64 0) (aJ O))∧DepsAt W (.slice ad O.length cap) O∧DepsAt W (.slice p1 ds1.length r1) ds1∧DepsAt W (.slice p3 ds3.length r3) ds3):=⟨⟨Below.refl _ _,HSW.out⟩,HOW.out.below HOV2.out,HD1.out.below HOV2.out,HD3.out.below HOV2.out⟩;have HO:Hid ((Below W.heap.size W W.drew∧SmAt W.drew M n (.int .i64 0) (aJ O))∧DepsAt W.drew (.slice ad O.length cap) O∧DepsAt W.drew (.slice p1 ds1.length r1) ds1∧DepsAt W.drew (.slice p3 ds3.length r3) ds3):=HKD.out _ _ HO0.out (Below.refl _ _).drew
 have HBX:Hid (∀ X,((Below W.heap.size W X∧SmAt X M n (.int .i64 0) (aJ O))∧DepsAt X (.slice ad O.length cap) O∧DepsAt X (.slice p1 ds1.length r1) ds1∧DepsAt X (.slice p3 ds3.length r3) ds3)→X.cell? ⟨N0,4,none⟩=some (.slice p1 ds1.length r1)∧X.cell? ⟨N0,6,none⟩=some (.slice p3 ds3.length r3)∧X.cell? ⟨KB,0,none⟩=some (.slice ad O.length cap)∧X.cell? ⟨KB,1,none⟩=some (.map (some M))):=fun X hx=>⟨(hx.1.1.cell (p:=⟨N0,4,none⟩) hNl).trans b1,(hx.1.1.cell (p:=⟨N0,6,none⟩) hNl).trans b7,(hx.1.1.cell (p:=⟨KB,0,none⟩) hkl).trans k0,(hx.1.1.cell (p:=⟨KB,1,none⟩) hkl).trans k1⟩
 have HW1:Hid (∀ X,((Below W.heap.size W X∧SmAt X M n (.int .i64 0) (aJ O))∧DepsAt X (.slice ad O.length cap) O∧DepsAt X (.slice p1 ds1.length r1) ds1∧DepsAt X (.slice p3 ds3.length r3) ds3)→Calls Tryz.prog 214 #[.agg #[.slice ad O.length cap,.map (some M)],.slice p1 ds1.length r1,.int .i64 1] X fun e w'=>∃ a7 n7 c7,e= .returned (.slice a7 n7 c7)∧(∃ ps,OwnWt w' X.heap.size (.slice a7 n7 c7) ps∧eK O 1 0 ds1 ps)∧Below X.heap.size X w'):=fun X hx=>(dW hx.2.1 hx.1.2 hx.2.2.1 HFF.out.1 1 0).mono fun e w' hq=>by
  obtain ⟨v,h1,ps,h2,h3,h4⟩:=hq;obtain ⟨a7,c7,rfl⟩:=h2.len;exact ⟨a7,_,c7,h1,⟨ps,h2,h3⟩,h4⟩
 have HW2:Hid (∀ X,((Below W.heap.size W X∧SmAt X M n (.int .i64 0) (aJ O))∧DepsAt X (.slice ad O.length cap) O∧DepsAt X (.slice p1 ds1.length r1) ds1∧DepsAt X (.slice p3 ds3.length r3) ds3)→Calls Tryz.prog 214 #[.agg #[.slice ad O.length cap,.map (some M)],.slice p3 ds3.length r3,.int .i64 2] X fun e w'=>∃ a7 n7 c7,e= .returned (.slice a7 n7 c7)∧(∃ ps,OwnWt w' X.heap.size (.slice a7 n7 c7) ps∧eK O 2 ds1.length ds3 ps)∧Below X.heap.size X w'):=fun X hx=>(dW hx.2.1 hx.1.2 hx.2.2.2 HFF.out.2.1 2 ds1.length).mono fun e w' hq=>by
  obtain ⟨v,h1,ps,h2,h3,h4⟩:=hq;obtain ⟨a7,c7,rfl⟩:=h2.len;exact ⟨a7,_,c7,h1,⟨ps,h2,h3⟩,h4⟩
 have HSR:Hid (∀ (X w6 w7:World) (v1 v2:Value),((Below W.heap.size W X∧SmAt X M n (.int .i64 0) (aJ O))∧DepsAt X (.slice ad O.length cap) O∧DepsAt X (.slice p1 ds1.length r1) ds1∧DepsAt X (.slice p3 ds3.length r3) ds3)→(∃ ps,OwnWt w6 X.heap.size v1 ps∧eK O 1 0 ds1 ps)→Below X.heap.size X w6→(∃ qs,OwnWt w7 w6.heap.size v2 qs∧eK O 2 ds1.length ds3 qs)→Below w6.heap.size w6 w7→Calls Tryz.prog 215 #[.slice (some ⟨w7.heap.size,0,none⟩) 2 2] (w7.alloc (.cells #[v1,v2] 111)) fun e w'=>∃ v,e= .returned v∧(∃ Y,dO O (ofE ds1 ds3) w' w.heap.size v Y∧Below w.heap.size w w')∧Below w7.heap.size w7 w'):=fun X w6 w7 v1 v2 hx h1 h2 h3 h4=>by
  obtain ⟨ps,g1,g2⟩:=h1;obtain ⟨qs,g3,g4⟩:=h3;have hBX:w.heap.size≤X.heap.size:=Nat.le_trans HOV2.out.size hx.1.1.size;refine (KZ (B:=w.heap.size) (Nat.le_trans hBX h2.size) (g1.base hBX) g2 g3 g4 h4 HFF.out.2.2).mono fun e w' hq=> ?_
  obtain ⟨v,q1,Y,q3,q4⟩:=hq;exact ⟨v,q1,⟨Y,q3,aB (aB (aB (aB HOV2.out hx.1.1) h2) h4) q4⟩,q4⟩
 clear HB0 HOV HSM HB1 HWW hcap b0 b6 hbl0 e0 e1 e2 e3 HOW HD1 HD3 HSW HO0 hN0 hKB HOV2;obtain ⟨t0,t1,t2,t3⟩:=HBX.out _ HO.out
 go_region_held3 (fun w'=>w'.cell? ⟨N0,4,none⟩=some (.slice p1 ds1.length r1)∧w'.cell? ⟨N0,6,none⟩=some (.slice p3 ds3.length r3)∧w'.cell? ⟨KB,0,none⟩=some (.slice ad O.length cap)∧w'.cell? ⟨KB,1,none⟩=some (.map (some M))) (go_keep) (first
  |(go_at_call 215;have _t:=HT2;refine (HSR.out _ _ _ _ _ HO.out HT1.out HB6.out HT2.out HB7.out).mono ?_;rintro e w8 ⟨v8,rfl,hfin,hb8⟩;have HFN:=aA hfin;have HO8:=aA (HKD.out _ _ HO7.out hb8);obtain ⟨g0,g1,g2,g3⟩:=HBX.out _ HO8.out;clear hfin hb8)
  |(go_at_call 214;have _t:=HT1;refine (HW2.out _ HO6.out).mono ?_;rintro e w7 ⟨a7,n7,c7,rfl,ht2,hb7⟩;have HT2:=aA ht2;have HB7:=aA hb7;have HO7:=aA (HKD.out _ _ HO6.out hb7);obtain ⟨u0,u1,u2,u3⟩:=HBX.out _ HO7.out;clear ht2 hb7)
  |(go_at_call 214;refine (HW1.out _ HO.out).mono ?_;rintro e w6 ⟨a6,n6,c6,rfl,ht1,hb6⟩;have HT1:=aA ht1;have HB6:=aA hb6;have HO6:=aA (HKD.out _ _ HO.out hb6);obtain ⟨s0,s1,s2,s3⟩:=HBX.out _ HO6.out;clear ht1 hb6))
 all_goals go_wp2
 all_goals go_ret
 all_goals (obtain ⟨Y,q1,q2⟩:=HFN.out;exact ⟨_,rfl,Y,q1,q2⟩)
end Go.Proofs.YtpfemjlhklnfoaaGreatDoor
