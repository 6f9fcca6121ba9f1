/- Ct7, Ct8, Ct9, Ct10, Ct11, Ct14, Ct15, Ct17, Ct19, Ct21, Ct28: their declarations that are needed, laid in one text, remarks and blanks left out. -/
import Derived.Test.YtpfemjlhklnfoaaGreatDoorShelfE
import Derived.Test.YtpfemjlhklnfoaaGreatDoorShelfF
import Derived.Test.YtpfemjlhklnfoaaGreatDoorShelfG
import Derived.RangeFuncGives
import Derived.RangeFuncBox
import Derived.Sort.MapsRangeIn
import Derived.OwnWalkIn
import Derived.TacticsInMore
import Derived.RegionIn
import Derived.LoopNIn
import Derived.LoopIn
import Derived.WideKeyEntry
import Derived.Test.YtpfemjlhklnfoaaGreatDoorMh07
namespace Go.Proofs.YtpfemjlhklnfoaaGreatDoor
open Go.RowKit Go.Maps Go.WideMaps
set_option maxRecDepth 100000
set_option maxHeartbeats 3200000 in
theorem MQ {w:World} {B C M:Nat} {L:List CV} (h:CatAt w B C M L) {P:Pg} {v1 v2 v3:Value} (hp:PgAt w P v1 v2 v3) (he:Env w) (hf:FL w) (hw:aI P=false):Calls Tryz.prog 12 #[.pointer (some ⟨C,0,none⟩),.agg #[.string P.nm,.int .i64 P.a,.int .i64 P.b,.int .i64 P.c,v1,v2,v3]] w fun e w'=>e= .returned (.int .i64 24)∧Below w.heap.size w w':=by
 have HMY:Hid (∀ W,PgAt W P v1 v2 v3→Below w.heap.size w W→Calls Tryz.prog 42 #[.agg #[.string P.nm,.int .i64 P.a,.int .i64 P.b,.int .i64 P.c,v1,v2,v3]] W fun e w'=>e= .returned (.bool (aI P))∧Below W.heap.size W w'):=fun W hw hb=>kA hw (he.below hb) (hf.below hb)
 obtain ⟨a1,c1,rfl⟩:=hp.1.sl;obtain ⟨a2,c2,rfl⟩:=hp.2.1.sl;obtain ⟨a3,c3,rfl⟩:=hp.2.2.sl;generalize P.d.length=n1 at*;generalize P.p.length=n2 at*;generalize P.o.length=n3 at*;have HKD:Hid (KeepP fun W=>((Below w.heap.size w W∧CatAt W B C M L)∧PgAt W P (.slice a1 n1 c1) (.slice a2 n2 c2) (.slice a3 n3 c3))∧BxP W w.heap.size P.nm P.a P.b P.c (.slice a1 n1 c1) (.slice a2 n2 c2) (.slice a3 n3 c3)):=fun a b hx hab=>⟨⟨⟨aB hx.1.1.1 hab,hx.1.1.2.below hab⟩,hx.1.2.below hab⟩,bF _ _ _ _ _ _ _ _ _ _ hx.2 hab⟩
 have HO0:Hid (((Below w.heap.size w (w.alloc (.cells #[.string P.nm,.int .i64 P.a,.int .i64 P.b,.int .i64 P.c,.slice a1 n1 c1,.slice a2 n2 c2,.slice a3 n3 c3] 34))∧CatAt (w.alloc (.cells #[.string P.nm,.int .i64 P.a,.int .i64 P.b,.int .i64 P.c,.slice a1 n1 c1,.slice a2 n2 c2,.slice a3 n3 c3] 34)) B C M L)∧PgAt (w.alloc (.cells #[.string P.nm,.int .i64 P.a,.int .i64 P.b,.int .i64 P.c,.slice a1 n1 c1,.slice a2 n2 c2,.slice a3 n3 c3] 34)) P (.slice a1 n1 c1) (.slice a2 n2 c2) (.slice a3 n3 c3))∧BxP (w.alloc (.cells #[.string P.nm,.int .i64 P.a,.int .i64 P.b,.int .i64 P.c,.slice a1 n1 c1,.slice a2 n2 c2,.slice a3 n3 c3] 34)) w.heap.size P.nm P.a P.b P.c (.slice a1 n1 c1) (.slice a2 n2 c2) (.slice a3 n3 c3)):=⟨⟨⟨aD _ _,h.below (aD _ _)⟩,hp.below (aD _ _)⟩,BxP.new rfl _ _ _ _ _ _ _⟩;clear h hp he hf;obtain ⟨k0,k1,k2,k3,k4,k5,k6,_⟩:=HO0.out.2;rw [hw] at HMY;clear hw
 go_enter Tryz.func12,Tryz.ntmps12
 go_wp2_with (go_at_call 42;refine (HMY.out _ HO0.out.1.2 HO0.out.1.1.1).mono ?_;rintro e w1 ⟨rfl,hb⟩;have HO1:=aA (HKD.out _ _ HO0.out hb);clear hb k0 k1 k2 k3 k4 k5 k6;obtain ⟨k0,k1,k2,k3,k4,k5,k6,_⟩:=HO1.out.2;have kc:=HO1.out.1.1.2.1.1)
 go_ret;exact ⟨rfl,HO1.out.1.1.1⟩
set_option maxHeartbeats 3200000 in
theorem BM {w:World} {B C M:Nat} {L:List CV} (h:CatAt w B C M L) {P:Pg} {v1 v2 v3:Value} (hp:PgAt w P v1 v2 v3) (he:Env w) (hf:FL w) (hk:bQ P.nm P.a P.b P.c) (hw:aI P=true) {x:CV} (hx:bJ L P.nm P.a P.b P.c=some x):Calls Tryz.prog 12 #[.pointer (some ⟨C,0,none⟩),.agg #[.string P.nm,.int .i64 P.a,.int .i64 P.b,.int .i64 P.c,v1,v2,v3]] w fun e w'=>e= .returned (.int .i64 11)∧Below w.heap.size w w':=by
 have HOG:=aA (h.find hx).2.2.2.2.2.1;have HMY:Hid (∀ W,PgAt W P v1 v2 v3→Below w.heap.size w W→Calls Tryz.prog 42 #[.agg #[.string P.nm,.int .i64 P.a,.int .i64 P.b,.int .i64 P.c,v1,v2,v3]] W fun e w'=>e= .returned (.bool (aI P))∧Below W.heap.size W w'):=fun W hw hb=>kA hw (he.below hb) (hf.below hb)
 obtain ⟨a1,c1,rfl⟩:=hp.1.sl;obtain ⟨a2,c2,rfl⟩:=hp.2.1.sl;obtain ⟨a3,c3,rfl⟩:=hp.2.2.sl;generalize P.d.length=n1 at*;generalize P.p.length=n2 at*;generalize P.o.length=n3 at*;have HKD:Hid (KeepP fun W=>((Below w.heap.size w W∧CatAt W B C M L)∧PgAt W P (.slice a1 n1 c1) (.slice a2 n2 c2) (.slice a3 n3 c3))∧BxP W w.heap.size P.nm P.a P.b P.c (.slice a1 n1 c1) (.slice a2 n2 c2) (.slice a3 n3 c3)):=fun a b hx hab=>⟨⟨⟨aB hx.1.1.1 hab,hx.1.1.2.below hab⟩,hx.1.2.below hab⟩,bF _ _ _ _ _ _ _ _ _ _ hx.2 hab⟩
 have HO0:Hid (((Below w.heap.size w (w.alloc (.cells #[.string P.nm,.int .i64 P.a,.int .i64 P.b,.int .i64 P.c,.slice a1 n1 c1,.slice a2 n2 c2,.slice a3 n3 c3] 34))∧CatAt (w.alloc (.cells #[.string P.nm,.int .i64 P.a,.int .i64 P.b,.int .i64 P.c,.slice a1 n1 c1,.slice a2 n2 c2,.slice a3 n3 c3] 34)) B C M L)∧PgAt (w.alloc (.cells #[.string P.nm,.int .i64 P.a,.int .i64 P.b,.int .i64 P.c,.slice a1 n1 c1,.slice a2 n2 c2,.slice a3 n3 c3] 34)) P (.slice a1 n1 c1) (.slice a2 n2 c2) (.slice a3 n3 c3))∧BxP (w.alloc (.cells #[.string P.nm,.int .i64 P.a,.int .i64 P.b,.int .i64 P.c,.slice a1 n1 c1,.slice a2 n2 c2,.slice a3 n3 c3] 34)) w.heap.size P.nm P.a P.b P.c (.slice a1 n1 c1) (.slice a2 n2 c2) (.slice a3 n3 c3)):=⟨⟨⟨aD _ _,h.below (aD _ _)⟩,hp.below (aD _ _)⟩,BxP.new rfl _ _ _ _ _ _ _⟩;clear h hp he hf;obtain ⟨k0,k1,k2,k3,k4,k5,k6,_⟩:=HO0.out.2;rw [hw] at HMY;clear hw;obtain ⟨Q,y1,y2,y3⟩:=x
 obtain ⟨d1,m1,o1,rfl⟩:=kB HOG.out;obtain ⟨d2,m2,o2,rfl⟩:=mH HOG.out;obtain ⟨d3,m3,o3,rfl⟩:=kC HOG.out
 have HLK:Hid (∀ W,CatAt W B C M L→(Instr.lookup 81 (.map (some M)) (.agg #[.string P.nm,.int .i64 P.a,.int .i64 P.b,.int .i64 P.c]) true).run Tryz.prog W= .ok (.tuple #[Value.agg #[.string Q.nm,.int .i64 Q.a,.int .i64 Q.b,.int .i64 Q.c,.slice d1 m1 o1,.slice d2 m2 o2,.slice d3 m3 o3],.bool true]) W):=fun W hW=>by
  have e:=eY hW hk;rw [iM,hx] at e;exact e
 have HKE:Hid (∀ W,Calls Tryz.prog 43 #[.agg #[.string P.nm,.int .i64 P.a,.int .i64 P.b,.int .i64 P.c,.slice a1 n1 c1,.slice a2 n2 c2,.slice a3 n3 c3]] W fun e w'=>e= .returned (.agg #[.string P.nm,.int .i64 P.a,.int .i64 P.b,.int .i64 P.c])∧Below W.heap.size W w'):=fun W=>mG ⟨_,_,_,rfl⟩ ⟨_,_,_,rfl⟩ ⟨_,_,_,rfl⟩
 clear hx hk
 go_enter Tryz.func12,Tryz.ntmps12
 go_wp2_with (go_at_call 42;refine (HMY.out _ HO0.out.1.2 HO0.out.1.1.1).mono ?_;rintro e w1 ⟨rfl,hb⟩;have HO1:=aA (HKD.out _ _ HO0.out hb);clear hb k0 k1 k2 k3 k4 k5 k6;obtain ⟨k0,k1,k2,k3,k4,k5,k6,_⟩:=HO1.out.2;have kc:=HO1.out.1.1.2.1.1)
 have HOW:=HO1;have HKF:Hid (∀ a b,(((Below w.heap.size w a∧CatAt a B C M L)∧PgAt a P (.slice a1 n1 c1) (.slice a2 n2 c2) (.slice a3 n3 c3))∧BxP a w.heap.size P.nm P.a P.b P.c (.slice a1 n1 c1) (.slice a2 n2 c2) (.slice a3 n3 c3))→Below a.heap.size a b→((Below w.heap.size w b∧CatAt b B C M L)∧PgAt b P (.slice a1 n1 c1) (.slice a2 n2 c2) (.slice a3 n3 c3))∧BxP b w.heap.size P.nm P.a P.b P.c (.slice a1 n1 c1) (.slice a2 n2 c2) (.slice a3 n3 c3)):=fun a b=>HKD.out a b
 have HOA:Hid (((Below w.heap.size w (w1.alloc (.cells #[.string ⟨#[]⟩,.int .i64 0,.int .i64 0,.int .i64 0,.slice none 0 0,.slice none 0 0,.slice none 0 0] 34)).drew∧CatAt (w1.alloc (.cells #[.string ⟨#[]⟩,.int .i64 0,.int .i64 0,.int .i64 0,.slice none 0 0,.slice none 0 0,.slice none 0 0] 34)).drew B C M L)∧PgAt (w1.alloc (.cells #[.string ⟨#[]⟩,.int .i64 0,.int .i64 0,.int .i64 0,.slice none 0 0,.slice none 0 0,.slice none 0 0] 34)).drew P (.slice a1 n1 c1) (.slice a2 n2 c2) (.slice a3 n3 c3))∧BxP (w1.alloc (.cells #[.string ⟨#[]⟩,.int .i64 0,.int .i64 0,.int .i64 0,.slice none 0 0,.slice none 0 0,.slice none 0 0] 34)).drew w.heap.size P.nm P.a P.b P.c (.slice a1 n1 c1) (.slice a2 n2 c2) (.slice a3 n3 c3)):=HKD.out _ _ (HKD.out _ _ HO1.out (aD _ _)) (Below.refl _ _).drew
 have HZF:Hid (∀ b,Below (w1.alloc (.cells #[.string ⟨#[]⟩,.int .i64 0,.int .i64 0,.int .i64 0,.slice none 0 0,.slice none 0 0,.slice none 0 0] 34)).drew.heap.size (w1.alloc (.cells #[.string ⟨#[]⟩,.int .i64 0,.int .i64 0,.int .i64 0,.slice none 0 0,.slice none 0 0,.slice none 0 0] 34)).drew b→BxPF b w1.heap.size ⟨#[]⟩ 0 0 0 (.slice none 0 0) (.slice none 0 0) (.slice none 0 0)):=fun b hb=>cV _ _ _ _ _ _ _ _ _ _ (cV _ _ _ _ _ _ _ _ _ _ (BxPF.new rfl _ _ _ _ _ _ _) (Below.refl _ _).drew) hb
 have HO1:=aA (HKD.out _ _ HO1.out (Below.refl _ _).drew);have hle1:w.heap.size≤w1.heap.size:=HO1.out.1.1.1.size;have nc:=World.new_ne w1 ⟨C,0,none⟩ kc;have nb0:=World.new_ne w1 ⟨w.heap.size,0,none⟩ k0
 go_region_held3 (fun w'=>w'.cell? ⟨C,0,none⟩=some (.map (some M))∧w'.cell? ⟨w.heap.size,0,none⟩=some (.string P.nm)∧w'.cell? ⟨w.heap.size,1,none⟩=some (.int .i64 P.a)∧w'.cell? ⟨w.heap.size,2,none⟩=some (.int .i64 P.b)∧w'.cell? ⟨w.heap.size,3,none⟩=some (.int .i64 P.c)∧w'.cell? ⟨w.heap.size,4,none⟩=some (.slice a1 n1 c1)∧w'.cell? ⟨w.heap.size,5,none⟩=some (.slice a2 n2 c2)∧w'.cell? ⟨w.heap.size,6,none⟩=some (.slice a3 n3 c3)) (go_keep) (first
  |(go_at_call 43;refine (HKE.out _).mono ?_;rintro e w2 ⟨rfl,hb⟩;have HO2:Hid (((Below w.heap.size w w2∧CatAt w2 B C M L)∧PgAt w2 P (.slice a1 n1 c1) (.slice a2 n2 c2) (.slice a3 n3 c3))∧BxP w2 w.heap.size P.nm P.a P.b P.c (.slice a1 n1 c1) (.slice a2 n2 c2) (.slice a3 n3 c3)):=(by with_reducible exact aA (HKF.out _ _ HOA.out hb));have HZ2:=aA (HZF.out _ hb);have HB12:Hid (Below w1.heap.size w1 w2):=aB ((aD _ _).drew) hb;obtain ⟨⟨r0,r1,r2,r3,r4,r5,r6,r7⟩,hfz⟩:=HZ2.out;have f0:=hfz 0 (by decide);have f1:=hfz 1 (by decide);have f2:=hfz 2 (by decide);have f3:=hfz 3 (by decide);have f4:=hfz 4 (by decide);have f5:=hfz 5 (by decide);have f6:=hfz 6 (by decide);clear hfz;have hle2:w.heap.size≤w2.heap.size:=HO2.out.1.1.1.size;obtain ⟨k0,k1,k2,k3,k4,k5,k6,_⟩:=HO2.out.2;have kc:=HO2.out.1.1.2.1.1;have l1:=HLK.out _ HO2.out.1.1.2;clear hb)
  |(go_at_call 43;refine (HKE.out _).mono ?_;rintro e w2 ⟨rfl,hb⟩;have HO2:Hid (((Below w.heap.size w w2∧CatAt w2 B C M L)∧PgAt w2 P (.slice a1 n1 c1) (.slice a2 n2 c2) (.slice a3 n3 c3))∧BxP w2 w.heap.size P.nm P.a P.b P.c (.slice a1 n1 c1) (.slice a2 n2 c2) (.slice a3 n3 c3)):=(by with_reducible exact aA (HKF.out _ _ HO1.out hb));have hle2:w.heap.size≤w2.heap.size:=HO2.out.1.1.1.size;obtain ⟨k0,k1,k2,k3,k4,k5,k6,_⟩:=HO2.out.2;have kc:=HO2.out.1.1.2.1.1;have l1:=HLK.out _ HO2.out.1.1.2;have l2:=HLK.out _ (HO2.out.1.1.2.below (aD w2 (.cells #[.string ⟨#[]⟩,.int .i64 0,.int .i64 0,.int .i64 0,.slice none 0 0,.slice none 0 0,.slice none 0 0] 34)));have nc2:=World.new_ne w2 ⟨C,0,none⟩ kc;have nb2:=World.new_ne w2 ⟨w.heap.size,0,none⟩ k0;clear hb))
 all_goals go_wp2
 all_goals go_ret
 all_goals first|(have _t:=HZ2;exact ⟨rfl,dM hle1 HO2.out.1.1.1⟩)|exact ⟨rfl,HO2.out.1.1.1.trans ((aD _ _).mono hle2)⟩
theorem zA {w:World} {B C M:Nat} {L:List CV} (h:CatAt w B C M L):(Builtin.len_ #[81] 3 #[.map (some M)]).run Tryz.prog w= .ok (.int .i64 (L.length:Nat)) w:=by
 rw [h.2.1.len Tryz.underlying81 3];simp [Maps.size]
theorem gE {w w':World} {B M:Nat} {e:TypeId} {z:Nat} {v:Value} {n:Nat} {xs:List Value} (h:w.ownsRow B e z v n xs) (hM:∃ es cl,w.heap[M]? =some (.map es cl)) (hg:w.grownBy w' (some M)):w'.ownsRow B e z v n xs:=by
 refine rM h fun g hv=>hg.block g (h.lt g hv).2 fun e'=> ?_
 obtain rfl:=Option.some.inj e';obtain ⟨es,cl,hm⟩:=hM
 rcases h.2 with ⟨rfl,_⟩|⟨g1,cap,cur,rfl,_,hgg,_⟩
 · cases hv
 · cases hv
   rw [hm] at hgg;cases hgg
theorem OwnD.map {w w':World} {B M:Nat} {v:Value} {ps:List (Dp×Value)} (h:OwnD w B v ps) (hM:∃ es cl,w.heap[M]? =some (.map es cl)) (hg:w.grownBy w' (some M)):OwnD w' B v ps:=⟨gE h.1 hM hg,fun p hp=>gE (h.2 p hp) hM hg⟩
theorem OwnG.map {w w':World} {B M:Nat} {P:Pg} {v1 v2 v3:Value} (h:OwnG w B P v1 v2 v3) (hM:∃ es cl,w.heap[M]? =some (.map es cl)) (hg:w.grownBy w' (some M)):OwnG w' B P v1 v2 v3:=by
 obtain ⟨q1,q2,q3,⟨d1,m1⟩,⟨d2,m2⟩,d3,m3⟩:=h;exact ⟨q1,q2,q3,⟨d1.map hM hg,m1⟩,⟨d2.map hM hg,m2⟩,d3.map hM hg,m3⟩
theorem CatAt.put {w w':World} {B C M:Nat} {L:List CV} (h:CatAt w B C M L) {x:CV} (ho:OwnG w B x.pg x.u1 x.u2 x.u3) (hw:aI x.pg=true) (hk:bQ x.pg.nm x.pg.a x.pg.b x.pg.c) (hs:SmP x.pg) (hn:bJ L x.pg.nm x.pg.a x.pg.b x.pg.c=none) (hm:w'.ownsMap Tryz.prog 80 eU M (L.length+1) ((DataW.map (L.map cvE)).put (gT x) (.held (cvV x)))) (hg:w.grownBy w' (some M)):∃ L',L'.Perm (x::L)∧CatAt w' B C M L':=by
 obtain ⟨L',e,hp⟩:=MP h.keys hk hn
 have hM:∃ es cl,w.heap[M]? =some (.map es cl):=by
  obtain ⟨es,cl,h1,_⟩:=h.2.1;exact ⟨es,cl,h1⟩
 refine ⟨L',hp,⟨?_,Nat.lt_of_lt_of_le h.1.2.1 hg.size,h.1.2.2⟩,?_,fun y hy=> ?_,?_⟩
 · rw [World.cell?_of_block (a:=⟨C,0,none⟩) (hg.block C h.1.2.1 fun q=>h.1.2.2 (Option.some.inj q).symm)]
   exact h.1.1
 · rw [hp.length_eq,List.length_cons,←e]
   exact hm
 · rcases List.mem_cons.1 (hp.mem_iff.1 hy) with rfl|hy
   · exact ⟨⟨ho.map hM hg,hw⟩,hk,hs⟩
   · exact ⟨⟨(h.2.2.1 y hy).1.1.map hM hg,(h.2.2.1 y hy).1.2⟩,(h.2.2.1 y hy).2⟩
 · have hc:(x::L).Pairwise fun x y=>gT x≠gT y:=by
    refine List.pairwise_cons.2 ⟨fun y hy q=> ?_,h.2.2.2⟩
    have:=List.find?_eq_none.1 hn y hy
    obtain ⟨e1,e2,e3,e4⟩:=tN hk.1 hk.2.1 hk.2.2.1 hk.2.2.2 (h.keys y hy).1 (h.keys y hy).2.1 (h.keys y hy).2.2.1 (h.keys y hy).2.2.2 q;exact this (decide_eq_true ⟨e1.symm,e2.symm,e3.symm,e4.symm⟩)
   exact (hp.pairwise_iff (fun q e=>q e.symm)).2 hc
theorem dU {D:List Dp} (h:aM D=true):SmD D:=by
 obtain ⟨h1,h2⟩:=bH h;refine ⟨by omega,fun d hd=>⟨by have:=h2 d hd;omega,?_⟩⟩
 have hr:∀ (q:Option ByteArray) (E:List Dp),bW q E=true→∀ d ∈ E,bS d.rg=true:=by
  intro q E
  induction E generalizing q with
  |nil=>intro _ d hd;cases hd
  |cons x r ih=>
   intro he d hd;simp only [bW,Bool.and_eq_true] at he
   rcases List.mem_cons.1 hd with rfl|hd
   · exact he.1.2
   · exact ih _ he.2 d hd
 have hm:=hr none D (by simp only [aM,Bool.and_eq_true] at h;exact h.2) d hd;simp only [bS,Bool.and_eq_true] at hm;obtain ⟨A,e,_,hl⟩:=jS.1 hm.2;rw [e,List.length_map];omega
theorem fJ {P:Pg} (h:aI P=true):SmP P:=by
 unfold aI eV at h;simp only [Bool.and_eq_true] at h;obtain ⟨⟨⟨⟨hn,_⟩,hd,hp,ho⟩,_⟩,_⟩:=h;refine ⟨?_,dU hd,dU hp,dU ho⟩;unfold Sc.aQ at hn;simp only [Bool.and_eq_true,decide_eq_true_eq] at hn;have e:P.nm.size=P.nm.data.toList.length:=by rw [Array.length_toList];rfl
 rw [e];omega
set_option maxHeartbeats 3200000 in
theorem EY {w:World} {B C M:Nat} {L:List CV} (h:CatAt w B C M L) {P:Pg} {v1 v2 v3:Value} (hp:PgAt w P v1 v2 v3) (he:Env w) (hf:FL w) (hk:bQ P.nm P.a P.b P.c) (hw:aI P=true) (hx:bJ L P.nm P.a P.b P.c=none) (hl:128≤L.length):Calls Tryz.prog 12 #[.pointer (some ⟨C,0,none⟩),.agg #[.string P.nm,.int .i64 P.a,.int .i64 P.b,.int .i64 P.c,v1,v2,v3]] w fun e w'=>e= .returned (.int .i64 26)∧Below w.heap.size w w':=by
 have HMY:Hid (∀ W,PgAt W P v1 v2 v3→Below w.heap.size w W→Calls Tryz.prog 42 #[.agg #[.string P.nm,.int .i64 P.a,.int .i64 P.b,.int .i64 P.c,v1,v2,v3]] W fun e w'=>e= .returned (.bool (aI P))∧Below W.heap.size W w'):=fun W hw hb=>kA hw (he.below hb) (hf.below hb)
 obtain ⟨a1,c1,rfl⟩:=hp.1.sl;obtain ⟨a2,c2,rfl⟩:=hp.2.1.sl;obtain ⟨a3,c3,rfl⟩:=hp.2.2.sl;generalize P.d.length=n1 at*;generalize P.p.length=n2 at*;generalize P.o.length=n3 at*;have HKD:Hid (KeepP fun W=>((Below w.heap.size w W∧CatAt W B C M L)∧PgAt W P (.slice a1 n1 c1) (.slice a2 n2 c2) (.slice a3 n3 c3))∧BxP W w.heap.size P.nm P.a P.b P.c (.slice a1 n1 c1) (.slice a2 n2 c2) (.slice a3 n3 c3)):=fun a b hx hab=>⟨⟨⟨aB hx.1.1.1 hab,hx.1.1.2.below hab⟩,hx.1.2.below hab⟩,bF _ _ _ _ _ _ _ _ _ _ hx.2 hab⟩
 have HO0:Hid (((Below w.heap.size w (w.alloc (.cells #[.string P.nm,.int .i64 P.a,.int .i64 P.b,.int .i64 P.c,.slice a1 n1 c1,.slice a2 n2 c2,.slice a3 n3 c3] 34))∧CatAt (w.alloc (.cells #[.string P.nm,.int .i64 P.a,.int .i64 P.b,.int .i64 P.c,.slice a1 n1 c1,.slice a2 n2 c2,.slice a3 n3 c3] 34)) B C M L)∧PgAt (w.alloc (.cells #[.string P.nm,.int .i64 P.a,.int .i64 P.b,.int .i64 P.c,.slice a1 n1 c1,.slice a2 n2 c2,.slice a3 n3 c3] 34)) P (.slice a1 n1 c1) (.slice a2 n2 c2) (.slice a3 n3 c3))∧BxP (w.alloc (.cells #[.string P.nm,.int .i64 P.a,.int .i64 P.b,.int .i64 P.c,.slice a1 n1 c1,.slice a2 n2 c2,.slice a3 n3 c3] 34)) w.heap.size P.nm P.a P.b P.c (.slice a1 n1 c1) (.slice a2 n2 c2) (.slice a3 n3 c3)):=⟨⟨⟨aD _ _,h.below (aD _ _)⟩,hp.below (aD _ _)⟩,BxP.new rfl _ _ _ _ _ _ _⟩;clear h hp he hf;obtain ⟨k0,k1,k2,k3,k4,k5,k6,_⟩:=HO0.out.2;rw [hw] at HMY;clear hw
 have HLK:Hid (∀ W,CatAt W B C M L→(Instr.lookup 81 (.map (some M)) (.agg #[.string P.nm,.int .i64 P.a,.int .i64 P.b,.int .i64 P.c]) true).run Tryz.prog W= .ok (.tuple #[Value.agg #[.string ByteArray.empty,.int .i64 0,.int .i64 0,.int .i64 0,.slice none 0 0,.slice none 0 0,.slice none 0 0],.bool false]) W):=fun W hW=>by
  have e:=eY hW hk;rw [iM,hx] at e;exact e
 have HKE:Hid (∀ W,Calls Tryz.prog 43 #[.agg #[.string P.nm,.int .i64 P.a,.int .i64 P.b,.int .i64 P.c,.slice a1 n1 c1,.slice a2 n2 c2,.slice a3 n3 c3]] W fun e w'=>e= .returned (.agg #[.string P.nm,.int .i64 P.a,.int .i64 P.b,.int .i64 P.c])∧Below W.heap.size W w'):=fun W=>mG ⟨_,_,_,rfl⟩ ⟨_,_,_,rfl⟩ ⟨_,_,_,rfl⟩
 clear hx hk;have hl2:(128:Int)≤(L.length:Int):=by omega
 go_enter Tryz.func12,Tryz.ntmps12
 go_wp2_with (go_at_call 42;refine (HMY.out _ HO0.out.1.2 HO0.out.1.1.1).mono ?_;rintro e w1 ⟨rfl,hb⟩;have HO1:=aA (HKD.out _ _ HO0.out hb);clear hb k0 k1 k2 k3 k4 k5 k6;obtain ⟨k0,k1,k2,k3,k4,k5,k6,_⟩:=HO1.out.2;have kc:=HO1.out.1.1.2.1.1)
 have HOW:=HO1;have HKF:Hid (∀ a b,(((Below w.heap.size w a∧CatAt a B C M L)∧PgAt a P (.slice a1 n1 c1) (.slice a2 n2 c2) (.slice a3 n3 c3))∧BxP a w.heap.size P.nm P.a P.b P.c (.slice a1 n1 c1) (.slice a2 n2 c2) (.slice a3 n3 c3))→Below a.heap.size a b→((Below w.heap.size w b∧CatAt b B C M L)∧PgAt b P (.slice a1 n1 c1) (.slice a2 n2 c2) (.slice a3 n3 c3))∧BxP b w.heap.size P.nm P.a P.b P.c (.slice a1 n1 c1) (.slice a2 n2 c2) (.slice a3 n3 c3)):=fun a b=>HKD.out a b
 have HOA:Hid (((Below w.heap.size w (w1.alloc (.cells #[.string ⟨#[]⟩,.int .i64 0,.int .i64 0,.int .i64 0,.slice none 0 0,.slice none 0 0,.slice none 0 0] 34)).drew∧CatAt (w1.alloc (.cells #[.string ⟨#[]⟩,.int .i64 0,.int .i64 0,.int .i64 0,.slice none 0 0,.slice none 0 0,.slice none 0 0] 34)).drew B C M L)∧PgAt (w1.alloc (.cells #[.string ⟨#[]⟩,.int .i64 0,.int .i64 0,.int .i64 0,.slice none 0 0,.slice none 0 0,.slice none 0 0] 34)).drew P (.slice a1 n1 c1) (.slice a2 n2 c2) (.slice a3 n3 c3))∧BxP (w1.alloc (.cells #[.string ⟨#[]⟩,.int .i64 0,.int .i64 0,.int .i64 0,.slice none 0 0,.slice none 0 0,.slice none 0 0] 34)).drew w.heap.size P.nm P.a P.b P.c (.slice a1 n1 c1) (.slice a2 n2 c2) (.slice a3 n3 c3)):=HKD.out _ _ (HKD.out _ _ HO1.out (aD _ _)) (Below.refl _ _).drew
 have HZF:Hid (∀ b,Below (w1.alloc (.cells #[.string ⟨#[]⟩,.int .i64 0,.int .i64 0,.int .i64 0,.slice none 0 0,.slice none 0 0,.slice none 0 0] 34)).drew.heap.size (w1.alloc (.cells #[.string ⟨#[]⟩,.int .i64 0,.int .i64 0,.int .i64 0,.slice none 0 0,.slice none 0 0,.slice none 0 0] 34)).drew b→BxPF b w1.heap.size ⟨#[]⟩ 0 0 0 (.slice none 0 0) (.slice none 0 0) (.slice none 0 0)):=fun b hb=>cV _ _ _ _ _ _ _ _ _ _ (cV _ _ _ _ _ _ _ _ _ _ (BxPF.new rfl _ _ _ _ _ _ _) (Below.refl _ _).drew) hb
 have HO1:=aA (HKD.out _ _ HO1.out (Below.refl _ _).drew);have hle1:w.heap.size≤w1.heap.size:=HO1.out.1.1.1.size;have nc:=World.new_ne w1 ⟨C,0,none⟩ kc;have nb0:=World.new_ne w1 ⟨w.heap.size,0,none⟩ k0
 go_region_held3 (fun w'=>w'.cell? ⟨C,0,none⟩=some (.map (some M))∧w'.cell? ⟨w.heap.size,0,none⟩=some (.string P.nm)∧w'.cell? ⟨w.heap.size,1,none⟩=some (.int .i64 P.a)∧w'.cell? ⟨w.heap.size,2,none⟩=some (.int .i64 P.b)∧w'.cell? ⟨w.heap.size,3,none⟩=some (.int .i64 P.c)∧w'.cell? ⟨w.heap.size,4,none⟩=some (.slice a1 n1 c1)∧w'.cell? ⟨w.heap.size,5,none⟩=some (.slice a2 n2 c2)∧w'.cell? ⟨w.heap.size,6,none⟩=some (.slice a3 n3 c3)) (go_keep) (first
  |(go_at_call 43;refine (HKE.out _).mono ?_;rintro e w2 ⟨rfl,hb⟩;have HO2:Hid (((Below w.heap.size w w2∧CatAt w2 B C M L)∧PgAt w2 P (.slice a1 n1 c1) (.slice a2 n2 c2) (.slice a3 n3 c3))∧BxP w2 w.heap.size P.nm P.a P.b P.c (.slice a1 n1 c1) (.slice a2 n2 c2) (.slice a3 n3 c3)):=(by with_reducible exact aA (HKF.out _ _ HOA.out hb));have HZ2:=aA (HZF.out _ hb);have HB12:Hid (Below w1.heap.size w1 w2):=aB ((aD _ _).drew) hb;obtain ⟨⟨r0,r1,r2,r3,r4,r5,r6,r7⟩,hfz⟩:=HZ2.out;have f0:=hfz 0 (by decide);have f1:=hfz 1 (by decide);have f2:=hfz 2 (by decide);have f3:=hfz 3 (by decide);have f4:=hfz 4 (by decide);have f5:=hfz 5 (by decide);have f6:=hfz 6 (by decide);clear hfz;have hle2:w.heap.size≤w2.heap.size:=HO2.out.1.1.1.size;obtain ⟨k0,k1,k2,k3,k4,k5,k6,_⟩:=HO2.out.2;have kc:=HO2.out.1.1.2.1.1;have l1:=HLK.out _ HO2.out.1.1.2;clear hb)
  |(go_at_call 43;refine (HKE.out _).mono ?_;rintro e w2 ⟨rfl,hb⟩;have HO2:Hid (((Below w.heap.size w w2∧CatAt w2 B C M L)∧PgAt w2 P (.slice a1 n1 c1) (.slice a2 n2 c2) (.slice a3 n3 c3))∧BxP w2 w.heap.size P.nm P.a P.b P.c (.slice a1 n1 c1) (.slice a2 n2 c2) (.slice a3 n3 c3)):=(by with_reducible exact aA (HKF.out _ _ HO1.out hb));have hle2:w.heap.size≤w2.heap.size:=HO2.out.1.1.1.size;obtain ⟨k0,k1,k2,k3,k4,k5,k6,_⟩:=HO2.out.2;have kc:=HO2.out.1.1.2.1.1;have l1:=HLK.out _ HO2.out.1.1.2;have l2:=HLK.out _ (HO2.out.1.1.2.below (aD w2 (.cells #[.string ⟨#[]⟩,.int .i64 0,.int .i64 0,.int .i64 0,.slice none 0 0,.slice none 0 0,.slice none 0 0] 34)));have nc2:=World.new_ne w2 ⟨C,0,none⟩ kc;have nb2:=World.new_ne w2 ⟨w.heap.size,0,none⟩ k0;clear hb))
 all_goals first
  |(have _t:=HZ2;have HO3:Hid (((Below w.heap.size w (((((((w2.setCell ⟨w1.heap.size,0,none⟩ (.string ByteArray.empty)).setCell ⟨w1.heap.size,1,none⟩ (.int .i64 0)).setCell ⟨w1.heap.size,2,none⟩ (.int .i64 0)).setCell ⟨w1.heap.size,3,none⟩ (.int .i64 0)).setCell ⟨w1.heap.size,4,none⟩ (.slice none 0 0)).setCell ⟨w1.heap.size,5,none⟩ (.slice none 0 0)).setCell ⟨w1.heap.size,6,none⟩ (.slice none 0 0))∧CatAt (((((((w2.setCell ⟨w1.heap.size,0,none⟩ (.string ByteArray.empty)).setCell ⟨w1.heap.size,1,none⟩ (.int .i64 0)).setCell ⟨w1.heap.size,2,none⟩ (.int .i64 0)).setCell ⟨w1.heap.size,3,none⟩ (.int .i64 0)).setCell ⟨w1.heap.size,4,none⟩ (.slice none 0 0)).setCell ⟨w1.heap.size,5,none⟩ (.slice none 0 0)).setCell ⟨w1.heap.size,6,none⟩ (.slice none 0 0)) B C M L)∧PgAt (((((((w2.setCell ⟨w1.heap.size,0,none⟩ (.string ByteArray.empty)).setCell ⟨w1.heap.size,1,none⟩ (.int .i64 0)).setCell ⟨w1.heap.size,2,none⟩ (.int .i64 0)).setCell ⟨w1.heap.size,3,none⟩ (.int .i64 0)).setCell ⟨w1.heap.size,4,none⟩ (.slice none 0 0)).setCell ⟨w1.heap.size,5,none⟩ (.slice none 0 0)).setCell ⟨w1.heap.size,6,none⟩ (.slice none 0 0)) P (.slice a1 n1 c1) (.slice a2 n2 c2) (.slice a3 n3 c3))∧BxP (((((((w2.setCell ⟨w1.heap.size,0,none⟩ (.string ByteArray.empty)).setCell ⟨w1.heap.size,1,none⟩ (.int .i64 0)).setCell ⟨w1.heap.size,2,none⟩ (.int .i64 0)).setCell ⟨w1.heap.size,3,none⟩ (.int .i64 0)).setCell ⟨w1.heap.size,4,none⟩ (.slice none 0 0)).setCell ⟨w1.heap.size,5,none⟩ (.slice none 0 0)).setCell ⟨w1.heap.size,6,none⟩ (.slice none 0 0)) w.heap.size P.nm P.a P.b P.c (.slice a1 n1 c1) (.slice a2 n2 c2) (.slice a3 n3 c3)):=HKD.out _ _ HOW.out (dM (Nat.le_refl _) HB12.out);clear _t HZ2 r0 r1 r2 r3 r4 r5 r6 r7 f0 f1 f2 f3 f4 f5 f6 l1 k0 k1 k2 k3 k4 k5 k6 kc;generalize (((((((w2.setCell ⟨w1.heap.size,0,none⟩ (.string ByteArray.empty)).setCell ⟨w1.heap.size,1,none⟩ (.int .i64 0)).setCell ⟨w1.heap.size,2,none⟩ (.int .i64 0)).setCell ⟨w1.heap.size,3,none⟩ (.int .i64 0)).setCell ⟨w1.heap.size,4,none⟩ (.slice none 0 0)).setCell ⟨w1.heap.size,5,none⟩ (.slice none 0 0)).setCell ⟨w1.heap.size,6,none⟩ (.slice none 0 0))=W3 at*)
  |(have HO3:Hid (((Below w.heap.size w (w2.alloc (.cells #[.string ByteArray.empty,.int .i64 0,.int .i64 0,.int .i64 0,.slice none 0 0,.slice none 0 0,.slice none 0 0] 34))∧CatAt (w2.alloc (.cells #[.string ByteArray.empty,.int .i64 0,.int .i64 0,.int .i64 0,.slice none 0 0,.slice none 0 0,.slice none 0 0] 34)) B C M L)∧PgAt (w2.alloc (.cells #[.string ByteArray.empty,.int .i64 0,.int .i64 0,.int .i64 0,.slice none 0 0,.slice none 0 0,.slice none 0 0] 34)) P (.slice a1 n1 c1) (.slice a2 n2 c2) (.slice a3 n3 c3))∧BxP (w2.alloc (.cells #[.string ByteArray.empty,.int .i64 0,.int .i64 0,.int .i64 0,.slice none 0 0,.slice none 0 0,.slice none 0 0] 34)) w.heap.size P.nm P.a P.b P.c (.slice a1 n1 c1) (.slice a2 n2 c2) (.slice a3 n3 c3)):=HKD.out _ _ HO2.out (aD _ _);clear l1 l2 k0 k1 k2 k3 k4 k5 k6 kc;generalize (w2.alloc (.cells #[.string ByteArray.empty,.int .i64 0,.int .i64 0,.int .i64 0,.slice none 0 0,.slice none 0 0,.slice none 0 0] 34))=W3 at*)
 all_goals obtain ⟨k0,k1,k2,k3,k4,k5,k6,_⟩:=HO3.out.2
 all_goals have kc:=HO3.out.1.1.2.1.1
 all_goals have hlr:=zA HO3.out.1.1.2
 all_goals go_wp2_with fail
 all_goals go_ret
 all_goals exact ⟨rfl,HO3.out.1.1.1⟩
set_option maxHeartbeats 6400000 in
theorem MR {w:World} {B C M:Nat} {L:List CV} (h:CatAt w B C M L) {P:Pg} {v1 v2 v3:Value} (hp:PgAt w P v1 v2 v3) (he:Env w) (hf:FL w) (hB:B≤w.heap.size) (hk:bQ P.nm P.a P.b P.c) (hw:aI P=true) (hx:bJ L P.nm P.a P.b P.c=none) (hl:L.length<128):Calls Tryz.prog 12 #[.pointer (some ⟨C,0,none⟩),.agg #[.string P.nm,.int .i64 P.a,.int .i64 P.b,.int .i64 P.c,v1,v2,v3]] w fun e w'=>e= .returned (.int .i64 0)∧∃ u1 u2 u3 L',L'.Perm (⟨P,u1,u2,u3⟩::L)∧CatAt w' B C M L'∧w.grownBy w' (some M):=by
 have HSM:=aA (fJ hw);have HWR:=aA hw;have HKY:=aA hk;have HNX:=aA hx;have HMY:Hid (∀ W,PgAt W P v1 v2 v3→Below w.heap.size w W→Calls Tryz.prog 42 #[.agg #[.string P.nm,.int .i64 P.a,.int .i64 P.b,.int .i64 P.c,v1,v2,v3]] W fun e w'=>e= .returned (.bool (aI P))∧Below W.heap.size W w'):=fun W hw hb=>kA hw (he.below hb) (hf.below hb)
 obtain ⟨a1,c1,rfl⟩:=hp.1.sl;obtain ⟨a2,c2,rfl⟩:=hp.2.1.sl;obtain ⟨a3,c3,rfl⟩:=hp.2.2.sl;generalize P.d.length=n1 at*;generalize P.p.length=n2 at*;generalize P.o.length=n3 at*;have HKD:Hid (KeepP fun W=>((Below w.heap.size w W∧CatAt W B C M L)∧PgAt W P (.slice a1 n1 c1) (.slice a2 n2 c2) (.slice a3 n3 c3))∧BxP W w.heap.size P.nm P.a P.b P.c (.slice a1 n1 c1) (.slice a2 n2 c2) (.slice a3 n3 c3)):=fun a b hx hab=>⟨⟨⟨aB hx.1.1.1 hab,hx.1.1.2.below hab⟩,hx.1.2.below hab⟩,bF _ _ _ _ _ _ _ _ _ _ hx.2 hab⟩
 have HO0:Hid (((Below w.heap.size w (w.alloc (.cells #[.string P.nm,.int .i64 P.a,.int .i64 P.b,.int .i64 P.c,.slice a1 n1 c1,.slice a2 n2 c2,.slice a3 n3 c3] 34))∧CatAt (w.alloc (.cells #[.string P.nm,.int .i64 P.a,.int .i64 P.b,.int .i64 P.c,.slice a1 n1 c1,.slice a2 n2 c2,.slice a3 n3 c3] 34)) B C M L)∧PgAt (w.alloc (.cells #[.string P.nm,.int .i64 P.a,.int .i64 P.b,.int .i64 P.c,.slice a1 n1 c1,.slice a2 n2 c2,.slice a3 n3 c3] 34)) P (.slice a1 n1 c1) (.slice a2 n2 c2) (.slice a3 n3 c3))∧BxP (w.alloc (.cells #[.string P.nm,.int .i64 P.a,.int .i64 P.b,.int .i64 P.c,.slice a1 n1 c1,.slice a2 n2 c2,.slice a3 n3 c3] 34)) w.heap.size P.nm P.a P.b P.c (.slice a1 n1 c1) (.slice a2 n2 c2) (.slice a3 n3 c3)):=⟨⟨⟨aD _ _,h.below (aD _ _)⟩,hp.below (aD _ _)⟩,BxP.new rfl _ _ _ _ _ _ _⟩;clear h hp he hf;obtain ⟨k0,k1,k2,k3,k4,k5,k6,_⟩:=HO0.out.2;rw [hw] at HMY;clear hw
 have HLK:Hid (∀ W,CatAt W B C M L→(Instr.lookup 81 (.map (some M)) (.agg #[.string P.nm,.int .i64 P.a,.int .i64 P.b,.int .i64 P.c]) true).run Tryz.prog W= .ok (.tuple #[Value.agg #[.string ByteArray.empty,.int .i64 0,.int .i64 0,.int .i64 0,.slice none 0 0,.slice none 0 0,.slice none 0 0],.bool false]) W):=fun W hW=>by
  have e:=eY hW hk;rw [iM,hx] at e;exact e
 have HKE:Hid (∀ W,Calls Tryz.prog 43 #[.agg #[.string P.nm,.int .i64 P.a,.int .i64 P.b,.int .i64 P.c,.slice a1 n1 c1,.slice a2 n2 c2,.slice a3 n3 c3]] W fun e w'=>e= .returned (.agg #[.string P.nm,.int .i64 P.a,.int .i64 P.b,.int .i64 P.c])∧Below W.heap.size W w'):=fun W=>mG ⟨_,_,_,rfl⟩ ⟨_,_,_,rfl⟩ ⟨_,_,_,rfl⟩
 clear hx hk;have hl2:¬ (128:Int)≤(L.length:Int):=by omega
 have HFIN:Hid (∀ w6 w7 x1 y1 z1 x2 y2 z2 x3 y3 z3,Below w.heap.size w w6→CatAt w6 B C M L→OwnG w6 w.heap.size P (.slice x1 y1 z1) (.slice x2 y2 z2) (.slice x3 y3 z3)→w7.ownsMap Tryz.prog 80 eU M (L.length+1) ((DataW.map (L.map cvE)).put (gP P.nm P.a P.b P.c) (.held (.agg #[.string P.nm,.int .i64 P.a,.int .i64 P.b,.int .i64 P.c,.slice x1 y1 z1,.slice x2 y2 z2,.slice x3 y3 z3])))→w6.grownBy w7 (some M)→∃ u1 u2 u3 L',L'.Perm (⟨P,u1,u2,u3⟩::L)∧CatAt w7 B C M L'∧w.grownBy w7 (some M)):=fun w6 w7 x1 y1 z1 x2 y2 z2 x3 y3 z3 hb hc ho hm hg=>⟨_,_,_,by
  obtain ⟨L',hp,hc'⟩:=hc.put (x:=⟨P,.slice x1 y1 z1,.slice x2 y2 z2,.slice x3 y3 z3⟩) (ho.base hB) HWR.out HKY.out HSM.out HNX.out hm hg;exact ⟨L',hp,hc',cR hb hg⟩⟩
 have HCP:Hid (∀ W,PgAt W P (.slice a1 n1 c1) (.slice a2 n2 c2) (.slice a3 n3 c3)→Calls Tryz.prog 44 #[.agg #[.string P.nm,.int .i64 P.a,.int .i64 P.b,.int .i64 P.c,.slice a1 n1 c1,.slice a2 n2 c2,.slice a3 n3 c3]] W fun e w'=>∃ u1 u2 u3,e= .returned (.agg #[.string P.nm,.int .i64 P.a,.int .i64 P.b,.int .i64 P.c,u1,u2,u3])∧OwnG w' W.heap.size P u1 u2 u3∧Below W.heap.size W w'):=fun W hW=>nJ hW HSM.out
 go_enter Tryz.func12,Tryz.ntmps12
 go_wp2_with (go_at_call 42;refine (HMY.out _ HO0.out.1.2 HO0.out.1.1.1).mono ?_;rintro e w1 ⟨rfl,hb⟩;have HO1:=aA (HKD.out _ _ HO0.out hb);clear hb k0 k1 k2 k3 k4 k5 k6;obtain ⟨k0,k1,k2,k3,k4,k5,k6,_⟩:=HO1.out.2;have kc:=HO1.out.1.1.2.1.1)
 have HOW:=HO1;have HKF:Hid (∀ a b,(((Below w.heap.size w a∧CatAt a B C M L)∧PgAt a P (.slice a1 n1 c1) (.slice a2 n2 c2) (.slice a3 n3 c3))∧BxP a w.heap.size P.nm P.a P.b P.c (.slice a1 n1 c1) (.slice a2 n2 c2) (.slice a3 n3 c3))→Below a.heap.size a b→((Below w.heap.size w b∧CatAt b B C M L)∧PgAt b P (.slice a1 n1 c1) (.slice a2 n2 c2) (.slice a3 n3 c3))∧BxP b w.heap.size P.nm P.a P.b P.c (.slice a1 n1 c1) (.slice a2 n2 c2) (.slice a3 n3 c3)):=fun a b=>HKD.out a b
 have HOA:Hid (((Below w.heap.size w (w1.alloc (.cells #[.string ⟨#[]⟩,.int .i64 0,.int .i64 0,.int .i64 0,.slice none 0 0,.slice none 0 0,.slice none 0 0] 34)).drew∧CatAt (w1.alloc (.cells #[.string ⟨#[]⟩,.int .i64 0,.int .i64 0,.int .i64 0,.slice none 0 0,.slice none 0 0,.slice none 0 0] 34)).drew B C M L)∧PgAt (w1.alloc (.cells #[.string ⟨#[]⟩,.int .i64 0,.int .i64 0,.int .i64 0,.slice none 0 0,.slice none 0 0,.slice none 0 0] 34)).drew P (.slice a1 n1 c1) (.slice a2 n2 c2) (.slice a3 n3 c3))∧BxP (w1.alloc (.cells #[.string ⟨#[]⟩,.int .i64 0,.int .i64 0,.int .i64 0,.slice none 0 0,.slice none 0 0,.slice none 0 0] 34)).drew w.heap.size P.nm P.a P.b P.c (.slice a1 n1 c1) (.slice a2 n2 c2) (.slice a3 n3 c3)):=HKD.out _ _ (HKD.out _ _ HO1.out (aD _ _)) (Below.refl _ _).drew
 have HZF:Hid (∀ b,Below (w1.alloc (.cells #[.string ⟨#[]⟩,.int .i64 0,.int .i64 0,.int .i64 0,.slice none 0 0,.slice none 0 0,.slice none 0 0] 34)).drew.heap.size (w1.alloc (.cells #[.string ⟨#[]⟩,.int .i64 0,.int .i64 0,.int .i64 0,.slice none 0 0,.slice none 0 0,.slice none 0 0] 34)).drew b→BxPF b w1.heap.size ⟨#[]⟩ 0 0 0 (.slice none 0 0) (.slice none 0 0) (.slice none 0 0)):=fun b hb=>cV _ _ _ _ _ _ _ _ _ _ (cV _ _ _ _ _ _ _ _ _ _ (BxPF.new rfl _ _ _ _ _ _ _) (Below.refl _ _).drew) hb
 have HO1:=aA (HKD.out _ _ HO1.out (Below.refl _ _).drew);have hle1:w.heap.size≤w1.heap.size:=HO1.out.1.1.1.size;have nc:=World.new_ne w1 ⟨C,0,none⟩ kc;have nb0:=World.new_ne w1 ⟨w.heap.size,0,none⟩ k0
 go_region_held3 (fun w'=>w'.cell? ⟨C,0,none⟩=some (.map (some M))∧w'.cell? ⟨w.heap.size,0,none⟩=some (.string P.nm)∧w'.cell? ⟨w.heap.size,1,none⟩=some (.int .i64 P.a)∧w'.cell? ⟨w.heap.size,2,none⟩=some (.int .i64 P.b)∧w'.cell? ⟨w.heap.size,3,none⟩=some (.int .i64 P.c)∧w'.cell? ⟨w.heap.size,4,none⟩=some (.slice a1 n1 c1)∧w'.cell? ⟨w.heap.size,5,none⟩=some (.slice a2 n2 c2)∧w'.cell? ⟨w.heap.size,6,none⟩=some (.slice a3 n3 c3)) (go_keep) (first
  |(go_at_call 43;refine (HKE.out _).mono ?_;rintro e w2 ⟨rfl,hb⟩;have HO2:Hid (((Below w.heap.size w w2∧CatAt w2 B C M L)∧PgAt w2 P (.slice a1 n1 c1) (.slice a2 n2 c2) (.slice a3 n3 c3))∧BxP w2 w.heap.size P.nm P.a P.b P.c (.slice a1 n1 c1) (.slice a2 n2 c2) (.slice a3 n3 c3)):=(by with_reducible exact aA (HKF.out _ _ HOA.out hb));have HZ2:=aA (HZF.out _ hb);have HB12:Hid (Below w1.heap.size w1 w2):=aB ((aD _ _).drew) hb;obtain ⟨⟨r0,r1,r2,r3,r4,r5,r6,r7⟩,hfz⟩:=HZ2.out;have f0:=hfz 0 (by decide);have f1:=hfz 1 (by decide);have f2:=hfz 2 (by decide);have f3:=hfz 3 (by decide);have f4:=hfz 4 (by decide);have f5:=hfz 5 (by decide);have f6:=hfz 6 (by decide);clear hfz;have hle2:w.heap.size≤w2.heap.size:=HO2.out.1.1.1.size;obtain ⟨k0,k1,k2,k3,k4,k5,k6,_⟩:=HO2.out.2;have kc:=HO2.out.1.1.2.1.1;have l1:=HLK.out _ HO2.out.1.1.2;clear hb)
  |(go_at_call 43;refine (HKE.out _).mono ?_;rintro e w2 ⟨rfl,hb⟩;have HO2:Hid (((Below w.heap.size w w2∧CatAt w2 B C M L)∧PgAt w2 P (.slice a1 n1 c1) (.slice a2 n2 c2) (.slice a3 n3 c3))∧BxP w2 w.heap.size P.nm P.a P.b P.c (.slice a1 n1 c1) (.slice a2 n2 c2) (.slice a3 n3 c3)):=(by with_reducible exact aA (HKF.out _ _ HO1.out hb));have hle2:w.heap.size≤w2.heap.size:=HO2.out.1.1.1.size;obtain ⟨k0,k1,k2,k3,k4,k5,k6,_⟩:=HO2.out.2;have kc:=HO2.out.1.1.2.1.1;have l1:=HLK.out _ HO2.out.1.1.2;have l2:=HLK.out _ (HO2.out.1.1.2.below (aD w2 (.cells #[.string ⟨#[]⟩,.int .i64 0,.int .i64 0,.int .i64 0,.slice none 0 0,.slice none 0 0,.slice none 0 0] 34)));have nc2:=World.new_ne w2 ⟨C,0,none⟩ kc;have nb2:=World.new_ne w2 ⟨w.heap.size,0,none⟩ k0;clear hb))
 all_goals first
  |(have _t:=HZ2;have HO3:Hid (((Below w.heap.size w (((((((w2.setCell ⟨w1.heap.size,0,none⟩ (.string ByteArray.empty)).setCell ⟨w1.heap.size,1,none⟩ (.int .i64 0)).setCell ⟨w1.heap.size,2,none⟩ (.int .i64 0)).setCell ⟨w1.heap.size,3,none⟩ (.int .i64 0)).setCell ⟨w1.heap.size,4,none⟩ (.slice none 0 0)).setCell ⟨w1.heap.size,5,none⟩ (.slice none 0 0)).setCell ⟨w1.heap.size,6,none⟩ (.slice none 0 0))∧CatAt (((((((w2.setCell ⟨w1.heap.size,0,none⟩ (.string ByteArray.empty)).setCell ⟨w1.heap.size,1,none⟩ (.int .i64 0)).setCell ⟨w1.heap.size,2,none⟩ (.int .i64 0)).setCell ⟨w1.heap.size,3,none⟩ (.int .i64 0)).setCell ⟨w1.heap.size,4,none⟩ (.slice none 0 0)).setCell ⟨w1.heap.size,5,none⟩ (.slice none 0 0)).setCell ⟨w1.heap.size,6,none⟩ (.slice none 0 0)) B C M L)∧PgAt (((((((w2.setCell ⟨w1.heap.size,0,none⟩ (.string ByteArray.empty)).setCell ⟨w1.heap.size,1,none⟩ (.int .i64 0)).setCell ⟨w1.heap.size,2,none⟩ (.int .i64 0)).setCell ⟨w1.heap.size,3,none⟩ (.int .i64 0)).setCell ⟨w1.heap.size,4,none⟩ (.slice none 0 0)).setCell ⟨w1.heap.size,5,none⟩ (.slice none 0 0)).setCell ⟨w1.heap.size,6,none⟩ (.slice none 0 0)) P (.slice a1 n1 c1) (.slice a2 n2 c2) (.slice a3 n3 c3))∧BxP (((((((w2.setCell ⟨w1.heap.size,0,none⟩ (.string ByteArray.empty)).setCell ⟨w1.heap.size,1,none⟩ (.int .i64 0)).setCell ⟨w1.heap.size,2,none⟩ (.int .i64 0)).setCell ⟨w1.heap.size,3,none⟩ (.int .i64 0)).setCell ⟨w1.heap.size,4,none⟩ (.slice none 0 0)).setCell ⟨w1.heap.size,5,none⟩ (.slice none 0 0)).setCell ⟨w1.heap.size,6,none⟩ (.slice none 0 0)) w.heap.size P.nm P.a P.b P.c (.slice a1 n1 c1) (.slice a2 n2 c2) (.slice a3 n3 c3)):=HKD.out _ _ HOW.out (dM (Nat.le_refl _) HB12.out);clear _t HZ2 r0 r1 r2 r3 r4 r5 r6 r7 f0 f1 f2 f3 f4 f5 f6 l1 k0 k1 k2 k3 k4 k5 k6 kc;generalize (((((((w2.setCell ⟨w1.heap.size,0,none⟩ (.string ByteArray.empty)).setCell ⟨w1.heap.size,1,none⟩ (.int .i64 0)).setCell ⟨w1.heap.size,2,none⟩ (.int .i64 0)).setCell ⟨w1.heap.size,3,none⟩ (.int .i64 0)).setCell ⟨w1.heap.size,4,none⟩ (.slice none 0 0)).setCell ⟨w1.heap.size,5,none⟩ (.slice none 0 0)).setCell ⟨w1.heap.size,6,none⟩ (.slice none 0 0))=W3 at*)
  |(have HO3:Hid (((Below w.heap.size w (w2.alloc (.cells #[.string ByteArray.empty,.int .i64 0,.int .i64 0,.int .i64 0,.slice none 0 0,.slice none 0 0,.slice none 0 0] 34))∧CatAt (w2.alloc (.cells #[.string ByteArray.empty,.int .i64 0,.int .i64 0,.int .i64 0,.slice none 0 0,.slice none 0 0,.slice none 0 0] 34)) B C M L)∧PgAt (w2.alloc (.cells #[.string ByteArray.empty,.int .i64 0,.int .i64 0,.int .i64 0,.slice none 0 0,.slice none 0 0,.slice none 0 0] 34)) P (.slice a1 n1 c1) (.slice a2 n2 c2) (.slice a3 n3 c3))∧BxP (w2.alloc (.cells #[.string ByteArray.empty,.int .i64 0,.int .i64 0,.int .i64 0,.slice none 0 0,.slice none 0 0,.slice none 0 0] 34)) w.heap.size P.nm P.a P.b P.c (.slice a1 n1 c1) (.slice a2 n2 c2) (.slice a3 n3 c3)):=HKD.out _ _ HO2.out (aD _ _);clear l1 l2 k0 k1 k2 k3 k4 k5 k6 kc;generalize (w2.alloc (.cells #[.string ByteArray.empty,.int .i64 0,.int .i64 0,.int .i64 0,.slice none 0 0,.slice none 0 0,.slice none 0 0] 34))=W3 at*)
 all_goals obtain ⟨k0,k1,k2,k3,k4,k5,k6,_⟩:=HO3.out.2
 all_goals have kc:=HO3.out.1.1.2.1.1
 all_goals have hlr:=zA HO3.out.1.1.2
 all_goals go_upto_region 9 with (go_at_call 44;refine (HCP.out _ HO3.out.1.2).mono ?_;rintro e w4 ⟨u1,u2,u3,rfl,ho,hb⟩;obtain ⟨x1,y1,z1,rfl⟩:=kB ho;obtain ⟨x2,y2,z2,rfl⟩:=mH ho;obtain ⟨x3,y3,z3,rfl⟩:=kC ho;have HO4:=aA (HKD.out _ _ HO3.out hb);have HG4:Hid (OwnG w4 w.heap.size P (.slice x1 y1 z1) (.slice x2 y2 z2) (.slice x3 y3 z3)):=ho.base HO3.out.1.1.1.size;clear ho hb k0 k1 k2 k3 k4 k5 k6 kc)
 all_goals have HKE2:Hid (∀ W,Calls Tryz.prog 43 #[.agg #[.string P.nm,.int .i64 P.a,.int .i64 P.b,.int .i64 P.c,.slice x1 y1 z1,.slice x2 y2 z2,.slice x3 y3 z3]] W fun e w'=>e= .returned (.agg #[.string P.nm,.int .i64 P.a,.int .i64 P.b,.int .i64 P.c])∧Below W.heap.size W w'):=fun W=>mG ⟨_,_,_,rfl⟩ ⟨_,_,_,rfl⟩ ⟨_,_,_,rfl⟩
 all_goals have HEK:Hid (∀ a b,(((Below w.heap.size w a∧CatAt a B C M L)∧OwnG a w.heap.size P (.slice x1 y1 z1) (.slice x2 y2 z2) (.slice x3 y3 z3))∧BxP a w4.heap.size P.nm P.a P.b P.c (.slice x1 y1 z1) (.slice x2 y2 z2) (.slice x3 y3 z3))→Below a.heap.size a b→((Below w.heap.size w b∧CatAt b B C M L)∧OwnG b w.heap.size P (.slice x1 y1 z1) (.slice x2 y2 z2) (.slice x3 y3 z3))∧BxP b w4.heap.size P.nm P.a P.b P.c (.slice x1 y1 z1) (.slice x2 y2 z2) (.slice x3 y3 z3)):=fun a b hx hab=>⟨⟨⟨aB hx.1.1.1 hab,hx.1.1.2.below hab⟩,hx.1.2.below hab⟩,bF _ _ _ _ _ _ _ _ _ _ hx.2 hab⟩
 all_goals have HE5:Hid (((Below w.heap.size w (w4.alloc (.cells #[.string P.nm,.int .i64 P.a,.int .i64 P.b,.int .i64 P.c,.slice x1 y1 z1,.slice x2 y2 z2,.slice x3 y3 z3] 34)).drew∧CatAt (w4.alloc (.cells #[.string P.nm,.int .i64 P.a,.int .i64 P.b,.int .i64 P.c,.slice x1 y1 z1,.slice x2 y2 z2,.slice x3 y3 z3] 34)).drew B C M L)∧OwnG (w4.alloc (.cells #[.string P.nm,.int .i64 P.a,.int .i64 P.b,.int .i64 P.c,.slice x1 y1 z1,.slice x2 y2 z2,.slice x3 y3 z3] 34)).drew w.heap.size P (.slice x1 y1 z1) (.slice x2 y2 z2) (.slice x3 y3 z3))∧BxP (w4.alloc (.cells #[.string P.nm,.int .i64 P.a,.int .i64 P.b,.int .i64 P.c,.slice x1 y1 z1,.slice x2 y2 z2,.slice x3 y3 z3] 34)).drew w4.heap.size P.nm P.a P.b P.c (.slice x1 y1 z1) (.slice x2 y2 z2) (.slice x3 y3 z3)):=HEK.out _ _ (⟨⟨⟨aB HO4.out.1.1.1 (aD _ _),HO4.out.1.1.2.below (aD _ _)⟩,HG4.out.below (aD _ _)⟩,BxP.new rfl _ _ _ _ _ _ _⟩:((Below w.heap.size w (w4.alloc (.cells #[.string P.nm,.int .i64 P.a,.int .i64 P.b,.int .i64 P.c,.slice x1 y1 z1,.slice x2 y2 z2,.slice x3 y3 z3] 34))∧CatAt (w4.alloc (.cells #[.string P.nm,.int .i64 P.a,.int .i64 P.b,.int .i64 P.c,.slice x1 y1 z1,.slice x2 y2 z2,.slice x3 y3 z3] 34)) B C M L)∧OwnG (w4.alloc (.cells #[.string P.nm,.int .i64 P.a,.int .i64 P.b,.int .i64 P.c,.slice x1 y1 z1,.slice x2 y2 z2,.slice x3 y3 z3] 34)) w.heap.size P (.slice x1 y1 z1) (.slice x2 y2 z2) (.slice x3 y3 z3))∧BxP (w4.alloc (.cells #[.string P.nm,.int .i64 P.a,.int .i64 P.b,.int .i64 P.c,.slice x1 y1 z1,.slice x2 y2 z2,.slice x3 y3 z3] 34)) w4.heap.size P.nm P.a P.b P.c (.slice x1 y1 z1) (.slice x2 y2 z2) (.slice x3 y3 z3)) (Below.refl _ _).drew
 all_goals have hM4:M<w4.heap.size:=HO4.out.1.1.2.2.1.lt
 all_goals generalize (w4.alloc (.cells #[.string P.nm,.int .i64 P.a,.int .i64 P.b,.int .i64 P.c,.slice x1 y1 z1,.slice x2 y2 z2,.slice x3 y3 z3] 34))=W5 at*
 all_goals obtain ⟨k0,k1,k2,k3,k4,k5,k6,_⟩:=HE5.out.2
 all_goals have kc:=HE5.out.1.1.2.1.1
 all_goals clear HKE HCP HMY HLK hlr
 all_goals go_region_held3 (fun w'=>w'.cell? ⟨C,0,none⟩=some (.map (some M))∧w'.cell? ⟨w4.heap.size,0,none⟩=some (.string P.nm)∧w'.cell? ⟨w4.heap.size,1,none⟩=some (.int .i64 P.a)∧w'.cell? ⟨w4.heap.size,2,none⟩=some (.int .i64 P.b)∧w'.cell? ⟨w4.heap.size,3,none⟩=some (.int .i64 P.c)∧w'.cell? ⟨w4.heap.size,4,none⟩=some (.slice x1 y1 z1)∧w'.cell? ⟨w4.heap.size,5,none⟩=some (.slice x2 y2 z2)∧w'.cell? ⟨w4.heap.size,6,none⟩=some (.slice x3 y3 z3)) (go_keep) (first
  |(go_at_call 43;refine (HKE2.out _).mono ?_;rintro e w6 ⟨rfl,hb⟩;have HE6:=aA (HEK.out _ _ HE5.out hb);obtain ⟨k0,k1,k2,k3,k4,k5,k6,hlt6⟩:=HE6.out.2;have kc:=HE6.out.1.1.2.1.1;obtain ⟨w7,hrun,hm,hg⟩:=HE6.out.1.1.2.2.1.update (e:=34) nI Tryz.underlying81 (by unfold maxLen;omega) (iE HKY.out.1 HKY.out.2.1 HKY.out.2.2.1 HKY.out.2.2.2) (val:= .agg #[.string P.nm,.int .i64 P.a,.int .i64 P.b,.int .i64 P.c,.slice x1 y1 z1,.slice x2 y2 z2,.slice x3 y3 z3]) (show eU (.agg #[.string P.nm,.int .i64 P.a,.int .i64 P.b,.int .i64 P.c,.slice x1 y1 z1,.slice x2 y2 z2,.slice x3 y3 z3])=some (.held (.agg #[.string P.nm,.int .i64 P.a,.int .i64 P.b,.int .i64 P.c,.slice x1 y1 z1,.slice x2 y2 z2,.slice x3 y3 z3]),[]) from rfl);unfold tK at hrun;have hne:some w4.heap.size≠some M:=(fun q=>by have:=Option.some.inj q;omega);have g0:=(World.cell?_of_block (a:=⟨w4.heap.size,0,none⟩) (hg.block w4.heap.size hlt6 hne)).trans k0;have g1:=(World.cell?_of_block (a:=⟨w4.heap.size,1,none⟩) (hg.block w4.heap.size hlt6 hne)).trans k1;have g2:=(World.cell?_of_block (a:=⟨w4.heap.size,2,none⟩) (hg.block w4.heap.size hlt6 hne)).trans k2;have g3:=(World.cell?_of_block (a:=⟨w4.heap.size,3,none⟩) (hg.block w4.heap.size hlt6 hne)).trans k3;have g4:=(World.cell?_of_block (a:=⟨w4.heap.size,4,none⟩) (hg.block w4.heap.size hlt6 hne)).trans k4;have g5:=(World.cell?_of_block (a:=⟨w4.heap.size,5,none⟩) (hg.block w4.heap.size hlt6 hne)).trans k5;have g6:=(World.cell?_of_block (a:=⟨w4.heap.size,6,none⟩) (hg.block w4.heap.size hlt6 hne)).trans k6;have gc:=(World.cell?_of_block (a:=⟨C,0,none⟩) (hg.block C HE6.out.1.1.2.1.2.1 (fun q=>HE6.out.1.1.2.1.2.2 (Option.some.inj q).symm))).trans kc;have HM7:=aA hm;have HG7:=aA hg;clear hb hm hg hne))
 all_goals go_wp2_with fail
 all_goals go_ret
 all_goals exact ⟨rfl,HFIN.out _ _ _ _ _ _ _ _ _ _ _ HE6.out.1.1.1 HE6.out.1.1.2 HE6.out.1.2 HM7.out HG7.out⟩
end Go.Proofs.YtpfemjlhklnfoaaGreatDoor
namespace Go.Proofs.YtpfemjlhklnfoaaGreatDoor
open Go.Shelf Go.RowKit Go.Lib Go.Sort
set_option maxRecDepth 100000
structure Vn where
 a:Int
 b:Int
 c:Int
 deriving DecidableEq,Inhabited
def MS (x y:Vn):Int:=bR y.a y.b y.c x.a x.b x.c
def gtV (x y:Vn):Bool:=decide (y.a<x.a∨y.a=x.a∧(y.b<x.b∨y.b=x.b∧y.c<x.c))
theorem ltG (x y:Vn):ltOf MS x y=gtV x y:=by
 unfold ltOf MS gtV bR
 grind
theorem JR {x y:Vn}:gtV x y=true↔(y.a<x.a∨y.a=x.a∧(y.b<x.b∨y.b=x.b∧y.c<x.c)):=by unfold gtV;rw [decide_eq_true_eq]
theorem EZ {x y:Vn}:gtV x y=false↔¬ (y.a<x.a∨y.a=x.a∧(y.b<x.b∨y.b=x.b∧y.c<x.c)):=by unfold gtV;rw [decide_eq_false_iff_not]
end Go.Proofs.YtpfemjlhklnfoaaGreatDoor
namespace Go.Proofs.YtpfemjlhklnfoaaGreatDoor
open Go.RowKit Go.Maps Go.WideMaps
set_option maxRecDepth 100000
def wG (x:CV):Vn:=⟨x.pg.a,x.pg.b,x.pg.c⟩
theorem NX (w:World):(zeroValue 3).run Tryz.prog w= .ok (.int .i64 0) w:=by kernel_rfl
end Go.Proofs.YtpfemjlhklnfoaaGreatDoor
namespace Go.Proofs.YtpfemjlhklnfoaaGreatDoor
open Go.RowKit
set_option maxRecDepth 100000
theorem nT {w:World} {e:TypeId} {z:Nat} {g n:Nat} {cur:Array Value} {xs:List Value} (hg:w.heap[g]? =some (.cells cur e (0,0))) (ht:cur.toList.take (n*z)=xs):∀ j u,xs[j]? =some u→w.cell? ((⟨g,0,none⟩:Addr).add j)=some u:=fun j u hj=>by
 refine World.news_of_block hg j u ?_;rw [←ht] at hj
 by_cases h:j<n*z
 · rw [List.getElem?_take_of_lt h] at hj
   exact hj
 · rw [List.getElem?_take_eq_none (by omega)] at hj
   cases hj
theorem rV {B B':Nat} {wx:World} {elt slt:TypeId} {z:Value} {sz bs n m:Nat} {v x:Value} {xs news:List Value} {ops:Array Oper} {rest:List Oper} {o:Oper} {f:Act} {Q:Exit→Act→World→Prop}
 (hinfo:(Tryz.prog.info? elt).map (fun i=>(i.zero,i.size,i.bytes))=some (some z,sz,bs)) (hund:Tryz.prog.underlying slt=some (.slice elt)) (hzc:z.cells.size=sz) (hsz:0<sz) (hbs:bs≤1000)
 (hgd:o.guard=none) (s t:Operand) (ho:o.op= .call { callee:= .builtin .append,args:= #[s,t],argTypes:= #[slt,slt] }) (hs:f.eval s=v)
 (hown:wx.ownsRow B elt sz v n xs) (hB:B≤wx.heap.size) (hx:f.eval t=x) (hxo:wx.ownsRow B' elt sz x m news) (hone:∀ u ∈ news,u.oneCell'=true) (hlen:n+m≤1000000000)
 (h:∀ v1 w1,w1.ownsRow B elt sz v1 (n+m) (xs++news)→wx.grownBy w1 v.ownBlock→(v1.ownBlock=v.ownBlock∨v1.ownBlock=some wx.heap.size)→wpList Tryz.prog ops Q rest (f.put o.dst v1) w1):
 wpList Tryz.prog ops Q (o::rest) f wx:=by
 rcases hxo.2 with ⟨rfl,rfl⟩|⟨g,cap,cur,rfl,_,hgg,_,_,_,ht⟩
 · obtain rfl:news=[]:=List.length_eq_zero_iff.1 (by rw [hxo.1,Nat.zero_mul])
   obtain ⟨i0,hi,_⟩:=Sc.cO hinfo;have h1:=h v wx (by rw [Nat.add_zero,List.append_nil];exact hown) ⟨rfl,rfl,rfl,Nat.le_refl _,fun _ _ _=>rfl⟩ (Or.inl rfl);refine wpList_plain hgd fun K hK=> ?_
   obtain ⟨base,cap,hv,hnc⟩:∃ base cap,v= .slice base n cap∧n≤cap:=by
    rcases hown.2 with ⟨rfl,rfl⟩|⟨g,cap,cur,rfl,_,_,hc,_⟩
    · exact ⟨none,0,rfl,Nat.le_refl _⟩
    · exact ⟨_,cap,rfl,hc⟩
   subst hv
   have hr:(Builtin.append_ #[slt,slt] o.type #[.slice base n cap,.slice none 0 0]).run Tryz.prog wx= .ok (.slice base n cap) wx:=by
    cases base<;>simp [Builtin.append_,run_underlying hund,sizeOf,typeInfo,hi,Builtin.lenOf,hnc,Builtin.firstCells,loadCells,storeCells]
   unfold Oper.wp execOp;simp only [ho,resolve,invoke,builtin,Sem.run_bind,Sem.run_pure,Result.andThen_ok,List.map_toArray,List.map_cons,List.map_nil,hs,hx,hr];exact hK _ _ h1
 · exact cH hinfo hund hzc hsz hbs hgd s t ho hs hown hB hx hxo.1 (nT hgg ht) hone hlen h
end Go.Proofs.YtpfemjlhklnfoaaGreatDoor
namespace Go.Proofs.YtpfemjlhklnfoaaGreatDoor
open Go.RowKit Go.Maps Go.WideMaps
set_option maxRecDepth 100000
theorem BN {W:World} {base:Nat} {e:TypeId} {size:Nat} {v:Value} {k:Nat} {xs:List Value} (h:W.ownsRow base e size v k xs) {j:Nat} {o:Obj} (hj:W.heap[j]? =some o) (hno:∀ cur,o≠ .cells cur e (0,0)):v.ownBlock=none∨v.ownBlock≠some j:=by
 rcases h.2 with ⟨rfl,_⟩|⟨g,cap,cur,rfl,_,hgb,_⟩
 · exact .inl rfl
 · refine .inr fun e'=> ?_
   obtain rfl:g=j:=by simpa [Value.ownBlock] using e'
   rw [hgb] at hj;cases hj;exact hno cur rfl
end Go.Proofs.YtpfemjlhklnfoaaGreatDoor
namespace Go.Proofs.YtpfemjlhklnfoaaGreatDoor
open Go.Shelf Go.RowKit Go.Lib Go.Sort
set_option maxRecDepth 100000
theorem wH (x:Vn):gtV x x=false:=by rw [EZ];omega
theorem BO {x y z:Vn} (h1:gtV x y=true) (h2:gtV y z=true):gtV x z=true:=by rw [JR] at*;omega
theorem wI {x y z:Vn} (h1:gtV x y=false) (h2:gtV y z=false):gtV x z=false:=by rw [EZ] at*;omega
end Go.Proofs.YtpfemjlhklnfoaaGreatDoor
namespace Go.Proofs.YtpfemjlhklnfoaaGreatDoor
open Go.RowKit Go.Maps Go.WideMaps
set_option maxRecDepth 100000
theorem eJ:(Tryz.prog.info? 34).map (fun i=>(i.zero,i.size,i.bytes))=some (some (.agg #[.string ⟨#[]⟩,.int .i64 0,.int .i64 0,.int .i64 0,.slice none 0 0,.slice none 0 0,.slice none 0 0]),7,112):=by kernel_rfl
def bU (x:CV):List Value:=[.string x.pg.nm,.int .i64 x.pg.a,.int .i64 x.pg.b,.int .i64 x.pg.c,x.u1,x.u2,x.u3]
theorem kY {a:Int} (h0:0≤a) (h1:a≤999):I64 a:=WalkArith.wf_i64 (by omega)
theorem zB {a b c:Int} (h:aN a b c=true):I64 a∧I64 b∧I64 c:=by
 unfold aN eL at h;simp only [Bool.and_eq_true,decide_eq_true_eq] at h;exact ⟨kY h.1.1.1 h.1.1.2,kY h.1.2.1 h.1.2.2,kY h.2.1 h.2.2⟩
theorem eZ {w w':World} {B N:Nat} {e t:TypeId} {z:Nat} {v:Value} {n:Nat} {xs:List Value} {cs:Array Value} {fr:Nat×Nat} (h:w.ownsRow B e z v n xs) (hN:w.heap[N]? =some (.cells cs t fr)) (hne:t≠e) (hg:w.grownBy w' (some N)):w'.ownsRow B e z v n xs:=
 World.ownsRow.kept h hg (BN h hN (fun _ q=>hne (Obj.cells.inj q).2.1))
theorem OwnG.over {w w':World} {B N:Nat} {P:Pg} {v1 v2 v3:Value} {cs:Array Value} {fr:Nat×Nat} {t:TypeId} (h:OwnG w B P v1 v2 v3) (hN:w.heap[N]? =some (.cells cs t fr)) (h1:t≠89) (h2:t≠91) (hg:w.grownBy w' (some N)):OwnG w' B P v1 v2 v3:=by
 obtain ⟨q1,q2,q3,⟨d1,m1⟩,⟨d2,m2⟩,d3,m3⟩:=h;exact ⟨q1,q2,q3,⟨⟨eZ d1.1 hN h1 hg,fun p hp=>eZ (d1.2 p hp) hN h2 hg⟩,m1⟩,⟨⟨eZ d2.1 hN h1 hg,fun p hp=>eZ (d2.2 p hp) hN h2 hg⟩,m2⟩,⟨eZ d3.1 hN h1 hg,fun p hp=>eZ (d3.2 p hp) hN h2 hg⟩,m3⟩
theorem CatAt.over {w w':World} {B C M N:Nat} {L:List CV} {cs:Array Value} {fr:Nat×Nat} {t:TypeId} (h:CatAt w B C M L) (hN:w.heap[N]? =some (.cells cs t fr)) (h1:t≠89) (h2:t≠91) (hC:N≠C) (hg:w.grownBy w' (some N)):CatAt w' B C M L:=by
 obtain ⟨⟨a1,a2,a3⟩,a4,a5,a6⟩:=h
 have hM:some M≠some N:=fun e=>by
  obtain rfl:=Option.some.inj e;obtain ⟨es,cl,hm,_⟩:=a4;rw [hm] at hN;cases hN
 refine ⟨⟨?_,Nat.lt_of_lt_of_le a2 hg.size,a3⟩,a4.kept hg hM,fun x hx=>⟨⟨(a5 x hx).1.1.over hN h1 h2 hg,(a5 x hx).1.2⟩,(a5 x hx).2⟩,a6⟩;rw [World.cell?_of_block (a:=⟨C,0,none⟩) (hg.block C a2 fun q=>hC (Option.some.inj q).symm)];exact a1
theorem gU {P:Pg} (h:aI P=true):bQ P.nm P.a P.b P.c:=by
 have hs:=(fJ h).1;unfold aI eV at h;simp only [Bool.and_eq_true] at h;obtain ⟨h1,h2,h3⟩:=zB h.1.1.1.2;exact ⟨by unfold maxLen;omega,h1,h2,h3⟩
theorem dV {w w':World} {M:Nat} (h:Below w.heap.size w w'):w.grownBy w' (some M):=⟨h.os,h.tape,h.output,h.size,fun k hk _=>h.block k hk⟩
def PgIn (w:World) (g o:Nat) (P:Pg) (v1 v2 v3:Value):Prop:=(w.cell? ⟨g,o,none⟩=some (.string P.nm)∧w.cell? ⟨g,o+1,none⟩=some (.int .i64 P.a)∧w.cell? ⟨g,o+2,none⟩=some (.int .i64 P.b)∧w.cell? ⟨g,o+3,none⟩=some (.int .i64 P.c)∧w.cell? ⟨g,o+4,none⟩=some v1∧w.cell? ⟨g,o+5,none⟩=some v2∧w.cell? ⟨g,o+6,none⟩=some v3)∧PgAt w P v1 v2 v3∧g<w.heap.size
theorem PgIn.below {w w':World} {g o:Nat} {P:Pg} {v1 v2 v3:Value} (h:PgIn w g o P v1 v2 v3) (hb:Below w.heap.size w w'):PgIn w' g o P v1 v2 v3:=by
 obtain ⟨⟨h0,h1,h2,h3,h4,h5,h6⟩,hp,hg⟩:=h;have q:∀ i,w'.cell? ⟨g,i,none⟩=w.cell? ⟨g,i,none⟩:=fun i=>hb.cell (p:=⟨g,i,none⟩) hg
 exact ⟨⟨by rw [q];exact h0,by rw [q];exact h1,by rw [q];exact h2,by rw [q];exact h3,by rw [q];exact h4,by rw [q];exact h5,by rw [q];exact h6⟩,hp.below hb,Nat.lt_of_lt_of_le hg hb.size⟩
def PgsAt (w:World) (v:Value) (L:List Pg):Prop:=∃ ad cap,v= .slice ad L.length cap∧L.length≤cap∧(L=[]∨∃ g o,ad=some ⟨g,o,none⟩∧∀ i (h:i<L.length),∃ v1 v2 v3,PgIn w g (o+i*7) L[i] v1 v2 v3)
theorem PgsAt.below {w w':World} {v:Value} {L:List Pg} (h:PgsAt w v L) (hb:Below w.heap.size w w'):PgsAt w' v L:=by
 obtain ⟨ad,cap,hv,hc,hl⟩:=h;refine ⟨ad,cap,hv,hc,hl.imp id ?_⟩;rintro ⟨g,o,ha,hs⟩;exact ⟨g,o,ha,fun i hi=>by obtain ⟨v1,v2,v3,h⟩:=hs i hi;exact ⟨v1,v2,v3,h.below hb⟩⟩
theorem PgsAt.sl {w:World} {v:Value} {L:List Pg} (h:PgsAt w v L):∃ ad cap,v= .slice ad L.length cap∧∀ i (_:i<L.length),∃ g o,ad=some ⟨g,o,none⟩∧∃ v1 v2 v3,PgIn w g (o+i*7) L[i] v1 v2 v3:=by
 obtain ⟨ad,cap,hv,_,hl⟩:=h;refine ⟨ad,cap,hv,fun i hi=> ?_⟩
 rcases hl with rfl|⟨g,o,ha,hs⟩
 · cases hi
 · exact ⟨g,o,ha,hs i hi⟩
theorem aP (g i:Nat) (v:Value):KeepP fun w1=>Sc.aF w1 g i v:=fun _ _ h hb=>⟨(hb.cell (p:=⟨g,i,none⟩) h.2).trans h.1,Nat.lt_of_lt_of_le h.2 hb.size⟩
end Go.Proofs.YtpfemjlhklnfoaaGreatDoor
