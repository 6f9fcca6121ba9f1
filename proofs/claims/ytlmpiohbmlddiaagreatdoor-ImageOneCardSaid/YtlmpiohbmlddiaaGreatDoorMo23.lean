/- Iy7, Iw1, Iw2, Iy8: their declarations that are needed, laid in one text, remarks and blanks left out. -/
import Derived.Test.YtlmpiohbmlddiaaGreatDoorMo22
namespace Go.Proofs.YtlmpiohbmlddiaaGreatDoor
open Go.RowKit Go.Maps Go.WideMaps
set_option maxRecDepth 100000
def gOk (us:List Fi):Prop:=erI (gM us) (gG us) (gT us)=0∧eF (gM us) (gG us) (gT us) (gB us)=us
def RdA (w:World) (fs:List Fi) (sv:Value) (er:Int) (w':World):Prop:=
 (fs=[]→er=0∧StOwn w' w.heap.size sv iJ [ndZ] [drZ] false)∧
 (fs≠[]→772<fs.length→sv= .agg #[.slice none 0 0,.slice none 0 0,.slice none 0 0,.slice none 0 0,.slice none 0 0,.slice none 0 0,.bool false]∧er=43)∧
 (fs≠[]→fs.length≤772→∃ us,(us.Perm fs∧lC us)∧(gOk us→er=0∧StOwn w' w.heap.size sv (gM us) (gG us) (gT us) (gB us))∧(¬ gOk us→sv= .agg #[.slice none 0 0,.slice none 0 0,.slice none 0 0,.slice none 0 0,.slice none 0 0,.slice none 0 0,.bool false]∧er=43))
def RdR (w:World) (fs:List Fi) (e:Ending) (w':World):Prop:=∃ sv er,e= .returned (.tuple #[sv,.int .i64 er])∧RdA w fs sv er w'∧Below w.heap.size w w'
theorem AP {w:World} {B g1 g2:Nat} (h1:w.heap[g1]? =some (.cells #[.string ⟨#[]⟩,.int .i64 0,.int .i64 0,.int .i64 0,.slice none 0 0,.slice none 0 0] 60)) (h2:w.heap[g2]? =some (.cells #[.slice none 0 0,.string ⟨#[]⟩,.int .i64 0,.int .i64 0,.int .i64 0,.slice none 0 0,.slice none 0 0,.slice none 0 0,.int .i64 0] 56)) (hb1:B≤g1) (hb2:B≤g2):
 StOwn w B (.agg #[.slice none 0 0,.slice none 0 0,.slice none 0 0,.slice none 0 0,.slice (some ⟨g1,0,none⟩) 1 1,.slice (some ⟨g2,0,none⟩) 1 1,.bool false]) iJ [ndZ] [drZ] false:=by
 refine ⟨_,_,_,_,_,_,_,_,_,_,_,_,_,_,_,_,_,_,rfl,⟨[],[],[],[],⟨OwnD.nil _ _,rfl⟩,⟨OwnD.nil _ _,rfl⟩,⟨OwnD.nil _ _,rfl⟩,OwnD.nil _ _,rfl⟩,⟨[⟨ndZ,.slice none 0 0,.slice none 0 0⟩],rfl,⟨rfl,Or.inr ⟨g1,1,_,rfl,hb1,h1,Nat.le_refl _,by decide,rfl,rfl⟩⟩,fun x hx=> ?_⟩,[zDv],AJ h2 hb2,rfl⟩;obtain rfl:=List.mem_singleton.1 hx;exact ⟨⟨rfl,Or.inl ⟨rfl,rfl⟩⟩,rfl,Or.inl ⟨rfl,rfl⟩⟩
set_option maxHeartbeats 6400000 in
theorem DT {v:Value} {w:World} (h:FlsAt w v []):Calls Tryz.prog 12 #[v] w (RdR w []):=by
 obtain ⟨a,c,rfl,_,_⟩:=h;have HQ:Hid (∀ sv W,StOwn W w.heap.size sv iJ [ndZ] [drZ] false→Below w.heap.size w W→RdR w [] (.returned (.tuple #[sv,.int .i64 0])) W):=fun sv W h1 h2=>⟨sv,0,rfl,⟨fun _=>⟨rfl,h1⟩,fun q=>absurd rfl q,fun q=>absurd rfl q⟩,h2⟩
 generalize RdR w []=Q at*;have HB0:Hid (Below w.heap.size w (w.alloc stZ)):=aD _ _;have HT0:Hid ((w.alloc stZ).heap[w.heap.size]? =some stZ):=World.alloc_heap_new w _;rw [List.length_nil]
 go_enter Tryz.func12,Tryz.ntmps12
 go_wp2_with (go_at_call 33;refine (lH _).mono ?_;rintro e W1 ⟨g1,g2,rfl,h1,h2,hB1,hB2,ok⟩;have HT1:Hid (W1.heap[w.heap.size]? =some stZ):=(ok.block _ (aS HT0.out)).trans HT0.out;have HS1:=aB (AP h1 h2 (Nat.le_trans HB0.out.size hB1) (Nat.le_trans HB0.out.size hB2));have HB1:=aB (aA HB0.out ok);clear h1 h2 hB1 hB2 ok HT0 HB0;have st0:=HT1.out;have hc:∀ i u,(#[Value.slice none 0 0,Value.slice none 0 0,Value.slice none 0 0,Value.slice none 0 0,Value.slice none 0 0,Value.slice none 0 0,.bool false]:Array Value)[i]? =some u→W1.cell? ⟨w.heap.size,i,none⟩=some u:=(fun i u q=>by rw [Lib.cell_of_heap st0];exact q);have hz:∀ i,W1.frozen? ⟨w.heap.size,i,none⟩=false:=(fun i=>by simp [World.frozen?,st0]);have k0:=hc 0 _ rfl;have z0:=hz 0;have k1:=hc 1 _ rfl;have z1:=hz 1;have k2:=hc 2 _ rfl;have z2:=hz 2;have k3:=hc 3 _ rfl;have z3:=hz 3;have k4:=hc 4 _ rfl;have z4:=hz 4;have k5:=hc 5 _ rfl;have z5:=hz 5;have k6:=hc 6 _ rfl;have z6:=hz 6;clear hc hz st0)
 have s7:=OQ k0 k1 k2 k3 k4 k5 k6 (.slice none 0 0) (.slice none 0 0) (.slice none 0 0) (.slice none 0 0) (.slice (some ⟨g1,0,none⟩) 1 1) (.slice (some ⟨g2,0,none⟩) 1 1) (.bool false);refine bodyPost_ret (by simp [results,Tryz.results12,s7,go_sem];try rfl) rfl ?_;exact HQ.out _ _ (HS1.out.far HT1.out rY) (cY (Nat.le_refl _) HB1.out)
set_option maxHeartbeats 12800000 in
theorem DU {fs:List Fi} {v:Value} {w:World} (h:FlsAt w v fs) (h0:fs≠[]) (hl:fs.length≤772) (hs:∀ x ∈ fs,x.pa.size≤8796093022208) (hpr:∀ us,us.Perm fs→PrsOk w us) (he:Env w) (hf:FL w):Calls Tryz.prog 12 #[v] w (RdR w fs):=by
 have HFS:=aB h;obtain ⟨a,c,rfl,_,_⟩:=h;have HSO:Hid (∀ W,Below w.heap.size w W→Calls Tryz.prog 23 #[.func (.func 85) #[] #[.pointer (some ⟨W.heap.size,0,none⟩)]] (W.alloc (.cells #[.slice a fs.length c] 33)) fun e w'=>∃ (v:Value) (us:List Fi),e= .returned v∧(us.Perm fs∧lC us)∧w'.ownsRow W.heap.size 45 3 v us.length (us.flatMap dT)∧Below W.heap.size W w'):=fun W hb=>AE (HFS.out.below hb) (by omega)
 have HGS:Hid (∀ W v us,Below w.heap.size w W→us.Perm fs→FlsAt W v us→Calls Tryz.prog 35 #[v] W (GsR W us)):=fun W v us hb hp hfl=>AM hfl (by rw [hp.length_eq];omega) (fun x hx=>hs x (hp.mem_iff.1 hx)) ((hpr us hp).below hb) (he.below hb) (hf.below hb)
 have HFI:Hid (∀ W B us x1 x2 x3 x4 xg xt pr,Below w.heap.size w W→us.Perm fs→StOwn W B (.agg #[x1,x2,x3,x4,xg,xt,.bool pr]) (gM us) (gG us) (gT us) (gB us)→Calls Tryz.prog 8 #[.agg #[x1,x2,x3,x4,xg,xt,.bool pr]] W (JU W (eF (gM us) (gG us) (gT us) (gB us)) (erI (gM us) (gG us) (gT us)))):=fun W B us x1 x2 x3 x4 xg xt pr hb hp hst=>by
  obtain ⟨a1,n1,c1,a2,n2,c2,a3,n3,c3,a4,n4,c4,ag,ng,cg,at_,nt,ct,e,h1,h2,ys,h3,h4⟩:=hst;simp only [Value.agg.injEq,Array.mk.injEq,List.cons.injEq,Value.bool.injEq,and_true] at e;obtain ⟨rfl,rfl,rfl,rfl,rfl,rfl,rfl⟩:=e;have hd:=h3.at;rw [h4] at hd;refine kG h1.at (TZ _) h2.at hd ?_ (RI (AK fun x hx=>hs x (hp.mem_iff.1 hx))) (OX _) mK (he.below hb) (hf.below hb);unfold gT;rw [iL];unfold cD;rw [List.length_cons]
  have:=kL (us.foldl aY []) us
  have:=hp.length_eq
  omega
 have HYE:Hid (∀ us sv W,(us.Perm fs∧lC us)∧gOk us→StOwn W w.heap.size sv (gM us) (gG us) (gT us) (gB us)→Below w.heap.size w W→RdR w fs (.returned (.tuple #[sv,.int .i64 0])) W):=fun us sv W h1 h2 h3=>⟨sv,0,rfl,⟨fun q=>absurd q h0,fun _ q=>by omega,fun _ _=>⟨us,h1.1,fun _=>⟨rfl,h2⟩,fun q=>absurd h1.2 q⟩⟩,h3⟩
 have HNO:Hid (∀ us W,(us.Perm fs∧lC us)∧¬ gOk us→Below w.heap.size w W→RdR w fs (.returned (.tuple #[.agg #[.slice none 0 0,.slice none 0 0,.slice none 0 0,.slice none 0 0,.slice none 0 0,.slice none 0 0,.bool false],.int .i64 43])) W):=fun us W h1 h3=>⟨_,43,rfl,⟨fun q=>absurd q h0,fun _ q=>by omega,fun _ _=>⟨us,h1.1,fun q=>absurd q h1.2,fun _=>⟨rfl,rfl⟩⟩⟩,h3⟩
 have h1:((fs.length:Int)==0)=false:=by rw [beq_eq_false_iff_ne];have:=List.length_pos_iff.2 h0;omega
 have h2:¬ (772:Int)<(fs.length:Int):=by omega
 generalize RdR w fs=Q at*;have HB0:Hid (Below w.heap.size w (w.alloc stZ)):=aD _ _;have HT0:Hid ((w.alloc stZ).heap[w.heap.size]? =some stZ):=World.alloc_heap_new w _;clear h0 hs he hf hpr HFS
 go_enter Tryz.func12,Tryz.ntmps12
 go_upto_region 1 with fail
 generalize (w.alloc stZ)=A0 at*
 go_upto_region 6 with (first
  |(have _t:=HT1;go_at_call 23;refine (HSO.out _ HB0.out).mono ?_;rintro e W2 ⟨v2,us,rfl,hpu,ho2,ok⟩;have HPU:=aB hpu;have HF2:Hid (FlsAt W2 v2 us):=OwnFi.at ho2;obtain ⟨b2,d2,rfl⟩:=OwnFi.form ho2;have HB2:=aB (aA HB0.out ok);have HT2:Hid (W2.heap[w.heap.size]? =some stZ):=(ok.block _ (aS HT0.out)).trans HT0.out;clear hpu ho2 ok HT1)
  |(go_at_call 34;refine (AD _ _ _ _).mono ?_;rintro e W1 ⟨rfl,rfl⟩;have HT1:=HT0))
 have hul:us.length≤772:=by rw [HPU.out.1.length_eq];exact hl
 go_upto_region 7 with (go_at_call 35;refine (HGS.out _ _ _ HB2.out HPU.out.1 HF2.out).mono ?_;rintro e W3 ⟨sv,rfl,hst,ok⟩;obtain ⟨a1,n1,c1,a2,n2,c2,a3,n3,c3,a4,n4,c4,ag,ng,cg,at_,nt,ct,rfl,hr⟩:=hst;have HST:Hid (StOwn W3 W2.heap.size (.agg #[.slice a1 n1 c1,.slice a2 n2 c2,.slice a3 n3 c3,.slice a4 n4 c4,.slice ag ng cg,.slice at_ nt ct,.bool (gB us)]) (gM us) (gG us) (gT us) (gB us)):=⟨a1,n1,c1,a2,n2,c2,a3,n3,c3,a4,n4,c4,ag,ng,cg,at_,nt,ct,rfl,hr⟩;have HK3:=aB ok;clear hr ok)
 obtain ⟨U3,hU3⟩:∃ U,U=W3.alloc (.cells #[.slice a1 n1 c1,.slice a2 n2 c2,.slice a3 n3 c3,.slice a4 n4 c4,.slice ag ng cg,.slice at_ nt ct,.bool (gB us)] 32):=⟨_,rfl⟩;have HU3:Hid (Below W3.heap.size W3 U3):=by rw [hU3];exact aD _ _
 have HN3:Hid (U3.heap[W3.heap.size]? =some (.cells #[.slice a1 n1 c1,.slice a2 n2 c2,.slice a3 n3 c3,.slice a4 n4 c4,.slice ag ng cg,.slice at_ nt ct,.bool (gB us)] 32)):=by rw [hU3];exact World.alloc_heap_new W3 _
 rw [←hU3];have HS3:Hid (Below W2.heap.size W2 U3):=aA HK3.out HU3.out;have HBU:Hid (Below w.heap.size w U3):=aA HB2.out HS3.out;have HTU:Hid (U3.heap[w.heap.size]? =some stZ):=(HS3.out.block _ (aS HT2.out)).trans HT2.out;have HSU:Hid (StOwn U3 w.heap.size (.agg #[.slice a1 n1 c1,.slice a2 n2 c2,.slice a3 n3 c3,.slice a4 n4 c4,.slice ag ng cg,.slice at_ nt ct,.bool (gB us)]) (gM us) (gG us) (gT us) (gB us)):=(HST.out.below HU3.out).base HB2.out.size;have HFU:Hid (FlsAt U3 (.slice b2 us.length d2) us):=HF2.out.below HS3.out;clear hU3;obtain ⟨fi,hfi⟩:∃ l,l=eF (gM us) (gG us) (gT us) (gB us):=⟨_,rfl⟩;obtain ⟨er,her⟩:∃ l,l=erI (gM us) (gG us) (gT us):=⟨_,rfl⟩;have HFC:=aB (HFI.out U3 _ us _ _ _ _ _ _ _ HBU.out HPU.out.1 HSU.out);rw [←hfi,←her] at HFC;have HOK:Hid (gOk us↔er=0∧fi=us):=by rw [hfi,her];exact Iff.rfl
 have q0:∀ i u,(#[Value.slice a1 n1 c1,.slice a2 n2 c2,.slice a3 n3 c3,.slice a4 n4 c4,.slice ag ng cg,.slice at_ nt ct,.bool (gB us)]:Array Value)[i]? =some u→U3.cell? ⟨W3.heap.size,i,none⟩=some u:=fun i u q=>by rw [Lib.cell_of_heap HN3.out];exact q
 have p0:=q0 0 _ rfl;have p1:=q0 1 _ rfl;have p2:=q0 2 _ rfl;have p3:=q0 3 _ rfl;have p4:=q0 4 _ rfl;have p5:=q0 5 _ rfl;have p6:=q0 6 _ rfl;clear hfi her HFI HGS HSO HB0 HT0 HT2 HB2 HST HK3 HU3 HS3 HF2 q0;generalize hpr:gB us=pr at*;have HPR:=aB hpr;clear hpr
 go_upto_region 8 with (go_at_call 8;refine HFC.out.mono ?_;rintro e W4 ⟨v4,rfl,ho4,ok⟩;have HO4:Hid (FlsAt W4 v4 fi):=ho4.at;obtain ⟨b4,d4,e4⟩:=ho4.form;obtain ⟨n9,hn9⟩:∃ n,n=fi.length:=⟨_,rfl⟩;rw [←hn9] at e4;subst e4;have HN9:=aB hn9;have HT4:Hid (W4.heap[w.heap.size]? =some stZ):=(ok.block _ (aS HTU.out)).trans HTU.out;have HN4:Hid (W4.heap[W3.heap.size]? =some (.cells #[.slice a1 n1 c1,.slice a2 n2 c2,.slice a3 n3 c3,.slice a4 n4 c4,.slice ag ng cg,.slice at_ nt ct,.bool pr] 32)):=(ok.block _ (aS HN3.out)).trans HN3.out;have HB4:=aB (aA HBU.out ok);have HS4:=aB (HSU.out.below ok);have HF4:=aB (HFU.out.below ok);clear hn9 ho4 ok p0 p1 p2 p3 p4 p5 p6)
 clear HFC HTU HN3 HBU HSU HFU
 by_cases hE:er=0
 · subst hE
   have HEQ:Hid (Calls Tryz.prog 36 #[.slice b4 n9 d4,.slice b2 us.length d2] W4 fun e w'=>e= .returned (.bool (eqB fi us))∧Below W4.heap.size W4 w'):=by
    have hfl:fi.length≤1000000000000∨1000000000000<fi.length:=by omega
    rcases hfl with q|q
    · exact DR HO4.out HF4.out q
    · have hne:n9≠us.length:=by rw [HN9.out];omega
      refine (mO hne).mono ?_;rintro e w' ⟨rfl,hb⟩;exact ⟨DQ (bJ (fun e=>by rw [e] at q;omega)).symm,hb⟩
   by_cases hq:fi=us
   · rw [aO hq] at HEQ
     have HN:Hid ((us.Perm fs∧lC us)∧gOk us):=⟨HPU.out,HOK.out.2 ⟨rfl,hq⟩⟩;clear HOK hq
     go_wp2_with (go_at_call 36;refine HEQ.out.mono ?_;rintro e V ⟨rfl,ok⟩;have HBV:=aB (aA HB4.out ok);have HTV:Hid (V.heap[w.heap.size]? =some stZ):=(ok.block _ (aS HT4.out)).trans HT4.out;have HNV:Hid (V.heap[W3.heap.size]? =some (.cells #[.slice a1 n1 c1,.slice a2 n2 c2,.slice a3 n3 c3,.slice a4 n4 c4,.slice ag ng cg,.slice at_ nt ct,.bool pr] 32)):=(ok.block _ (aS HN4.out)).trans HN4.out;have HSV:=aB (HS4.out.below ok);clear ok;have st0:=HTV.out;have hc:∀ i u,(#[Value.slice none 0 0,Value.slice none 0 0,Value.slice none 0 0,Value.slice none 0 0,Value.slice none 0 0,Value.slice none 0 0,.bool false]:Array Value)[i]? =some u→V.cell? ⟨w.heap.size,i,none⟩=some u:=(fun i u q=>by rw [Lib.cell_of_heap st0];exact q);have hz:∀ i,V.frozen? ⟨w.heap.size,i,none⟩=false:=(fun i=>by simp [World.frozen?,st0]);have k0:=hc 0 _ rfl;have z0:=hz 0;have k1:=hc 1 _ rfl;have z1:=hz 1;have k2:=hc 2 _ rfl;have z2:=hz 2;have k3:=hc 3 _ rfl;have z3:=hz 3;have k4:=hc 4 _ rfl;have z4:=hz 4;have k5:=hc 5 _ rfl;have z5:=hz 5;have k6:=hc 6 _ rfl;have z6:=hz 6;clear hc hz st0;have sn0:=HNV.out;have q0:∀ i u,(#[Value.slice a1 n1 c1,.slice a2 n2 c2,.slice a3 n3 c3,.slice a4 n4 c4,.slice ag ng cg,.slice at_ nt ct,.bool pr]:Array Value)[i]? =some u→V.cell? ⟨W3.heap.size,i,none⟩=some u:=(fun i u q=>by rw [Lib.cell_of_heap sn0];exact q);have p0:=q0 0 _ rfl;have p1:=q0 1 _ rfl;have p2:=q0 2 _ rfl;have p3:=q0 3 _ rfl;have p4:=q0 4 _ rfl;have p5:=q0 5 _ rfl;have p6:=q0 6 _ rfl;clear q0 sn0)
     have s7:=OQ k0 k1 k2 k3 k4 k5 k6 (.slice a1 n1 c1) (.slice a2 n2 c2) (.slice a3 n3 c3) (.slice a4 n4 c4) (.slice ag ng cg) (.slice at_ nt ct) (.bool pr);have HR:Hid (Q (.returned (.tuple #[.agg #[.slice a1 n1 c1,.slice a2 n2 c2,.slice a3 n3 c3,.slice a4 n4 c4,.slice ag ng cg,.slice at_ nt ct,.bool pr],.int .i64 0])) ((((((((V).setCell ⟨w.heap.size,0,none⟩ (.slice a1 n1 c1)).setCell ⟨w.heap.size,1,none⟩ (.slice a2 n2 c2)).setCell ⟨w.heap.size,2,none⟩ (.slice a3 n3 c3)).setCell ⟨w.heap.size,3,none⟩ (.slice a4 n4 c4)).setCell ⟨w.heap.size,4,none⟩ (.slice ag ng cg)).setCell ⟨w.heap.size,5,none⟩ (.slice at_ nt ct)).setCell ⟨w.heap.size,6,none⟩ (.bool pr))):=HYE.out _ _ _ HN.out (by rw [HPR.out];exact HSV.out.far HTV.out rY) (cY (Nat.le_refl _) HBV.out);refine bodyPost_ret (by simp [results,Tryz.results12,s7,go_sem];try rfl) rfl ?_;exact HR.out
   · rw [bJ hq] at HEQ
     have HN:Hid ((us.Perm fs∧lC us)∧¬ gOk us):=⟨HPU.out,fun h=>hq (HOK.out.1 h).2⟩;clear HOK hq
     go_wp2_with (go_at_call 36;refine HEQ.out.mono ?_;rintro e V ⟨rfl,ok⟩;have HBV:=aB (aA HB4.out ok);have HTV:Hid (V.heap[w.heap.size]? =some stZ):=(ok.block _ (aS HT4.out)).trans HT4.out;clear ok;have st0:=HTV.out;have hc:∀ i u,(#[Value.slice none 0 0,Value.slice none 0 0,Value.slice none 0 0,Value.slice none 0 0,Value.slice none 0 0,Value.slice none 0 0,.bool false]:Array Value)[i]? =some u→V.cell? ⟨w.heap.size,i,none⟩=some u:=(fun i u q=>by rw [Lib.cell_of_heap st0];exact q);have hz:∀ i,V.frozen? ⟨w.heap.size,i,none⟩=false:=(fun i=>by simp [World.frozen?,st0]);have k0:=hc 0 _ rfl;have z0:=hz 0;have k1:=hc 1 _ rfl;have z1:=hz 1;have k2:=hc 2 _ rfl;have z2:=hz 2;have k3:=hc 3 _ rfl;have z3:=hz 3;have k4:=hc 4 _ rfl;have z4:=hz 4;have k5:=hc 5 _ rfl;have z5:=hz 5;have k6:=hc 6 _ rfl;have z6:=hz 6;clear hc hz st0)
     have s7:=OQ k0 k1 k2 k3 k4 k5 k6 (.slice none 0 0) (.slice none 0 0) (.slice none 0 0) (.slice none 0 0) (.slice none 0 0) (.slice none 0 0) (.bool false);have HR:Hid (Q (.returned (.tuple #[.agg #[.slice none 0 0,.slice none 0 0,.slice none 0 0,.slice none 0 0,.slice none 0 0,.slice none 0 0,.bool false],.int .i64 43])) ((((((((V).setCell ⟨w.heap.size,0,none⟩ (.slice none 0 0)).setCell ⟨w.heap.size,1,none⟩ (.slice none 0 0)).setCell ⟨w.heap.size,2,none⟩ (.slice none 0 0)).setCell ⟨w.heap.size,3,none⟩ (.slice none 0 0)).setCell ⟨w.heap.size,4,none⟩ (.slice none 0 0)).setCell ⟨w.heap.size,5,none⟩ (.slice none 0 0)).setCell ⟨w.heap.size,6,none⟩ (.bool false))):=HNO.out _ _ HN.out (cY (Nat.le_refl _) HBV.out);refine bodyPost_ret (by simp [results,Tryz.results12,s7,go_sem];try rfl) rfl ?_;exact HR.out
 · have HN:Hid ((us.Perm fs∧lC us)∧¬ gOk us):=⟨HPU.out,fun h=>hE (HOK.out.1 h).1⟩
   obtain ⟨V,hV⟩:∃ V,V=W4:=⟨_,rfl⟩;have HBV:=HB4;have HTV:=HT4;rw [←hV] at HBV HTV ⊢;clear hV;have hc:∀ i u,(#[Value.slice none 0 0,Value.slice none 0 0,Value.slice none 0 0,Value.slice none 0 0,Value.slice none 0 0,Value.slice none 0 0,.bool false]:Array Value)[i]? =some u→V.cell? ⟨w.heap.size,i,none⟩=some u:=fun i u q=>by rw [Lib.cell_of_heap HTV.out];exact q
   have hz:∀ i,V.frozen? ⟨w.heap.size,i,none⟩=false:=fun i=>by simp [World.frozen?,HTV.out]
   have k0:=hc 0 _ rfl;have z0:=hz 0;have k1:=hc 1 _ rfl;have z1:=hz 1;have k2:=hc 2 _ rfl;have z2:=hz 2;have k3:=hc 3 _ rfl;have z3:=hz 3;have k4:=hc 4 _ rfl;have z4:=hz 4;have k5:=hc 5 _ rfl;have z5:=hz 5;have k6:=hc 6 _ rfl;have z6:=hz 6;clear hc hz;have s7:=OQ k0 k1 k2 k3 k4 k5 k6 (.slice none 0 0) (.slice none 0 0) (.slice none 0 0) (.slice none 0 0) (.slice none 0 0) (.slice none 0 0) (.bool false)
   have HR:Hid (Q (.returned (.tuple #[.agg #[.slice none 0 0,.slice none 0 0,.slice none 0 0,.slice none 0 0,.slice none 0 0,.slice none 0 0,.bool false],.int .i64 43])) ((((((((V).setCell ⟨w.heap.size,0,none⟩ (.slice none 0 0)).setCell ⟨w.heap.size,1,none⟩ (.slice none 0 0)).setCell ⟨w.heap.size,2,none⟩ (.slice none 0 0)).setCell ⟨w.heap.size,3,none⟩ (.slice none 0 0)).setCell ⟨w.heap.size,4,none⟩ (.slice none 0 0)).setCell ⟨w.heap.size,5,none⟩ (.slice none 0 0)).setCell ⟨w.heap.size,6,none⟩ (.bool false))):=HNO.out _ _ HN.out (cY (Nat.le_refl _) HBV.out)
   go_wp2_with fail
   refine bodyPost_ret (by simp [results,Tryz.results12,s7,go_sem];try rfl) rfl ?_;exact HR.out
end Go.Proofs.YtlmpiohbmlddiaaGreatDoor
namespace Go.Proofs.YtlmpiohbmlddiaaGreatDoor
open Go.RowKit
set_option maxRecDepth 100000
set_option maxHeartbeats 1600000 in
theorem sA (most:Int) (h:0≤most) (w:World):Calls Tryz.prog 138 #[.string ⟨#[]⟩,.int .i64 most] w fun e w'=>e= .returned (.tuple #[.slice none 0 0,.int .i64 0,.int .i64 0])∧Below w.heap.size w w':=by
 have h0:¬ most<(0:Int):=by omega
 have h1:decide (most<(0:Int))=false:=decide_eq_false h0
 go_enter Tryz.func138,Tryz.ntmps138
 go_wp2
 refine Sc.sH (fun _ _ _=>False) (fun _ _ _=>0) ?_ (fun _ _ _ q=>q.elim)
 go_wp2
 go_step3
 go_wp2
 simp only [Sc.GI];go_ret3;exact ⟨rfl,Below.refl _ _⟩
set_option maxHeartbeats 1600000 in
theorem sB (w:World):Calls Tryz.prog 139 #[.slice none 0 0] w fun e w'=>e= .returned (.tuple #[.agg #[.slice none 0 0,.slice none 0 0,.slice none 0 0,.slice none 0 0],.int .i64 22])∧Below w.heap.size w w':=by
 go_enter Tryz.func139,Tryz.ntmps139
 go_wp2
 refine bodyPost_ret (by simp [results,Tryz.results139,go_sem];try rfl) rfl ?_;exact ⟨rfl,aD _ _⟩
abbrev mnZ:Obj:= .cells #[.slice none 0 0,.slice none 0 0,.slice none 0 0,.slice none 0 0] 24
set_option maxHeartbeats 1600000 in
theorem AQ {t:ByteArray} (hl:∀ W,Calls Tryz.prog 138 #[.string t,.int .i64 4096] W fun e w'=>e= .returned (.tuple #[.slice none 0 0,.int .i64 0,.int .i64 0])∧Below W.heap.size W w') (w:World):Calls Tryz.prog 87 #[.string t] w fun e w'=>e= .returned (.tuple #[.agg #[.slice none 0 0,.slice none 0 0,.slice none 0 0,.slice none 0 0],.int .i64 22])∧Below w.heap.size w w':=by
 have HL:=aB hl;have HR:=aB sB;obtain ⟨A0,hA0⟩:∃ A,A=w.alloc mnZ:=⟨_,rfl⟩;have HB0:Hid (Below w.heap.size w A0):=by rw [hA0];exact aD _ _
 have HT0:Hid (A0.heap[w.heap.size]? =some mnZ):=by rw [hA0];exact World.alloc_heap_new w _
 clear hl
 go_enter Tryz.func87,Tryz.ntmps87
 go_upto_region 1 with fail
 rw [←hA0];clear hA0
 go_wp2_with (first
  |(have _t:=HB1;go_at_call 139;refine (HR.out _).mono ?_;rintro e W2 ⟨rfl,ok⟩;have HB2:=aB (aA HB1.out ok);have HT2:Hid (W2.heap[w.heap.size]? =some mnZ):=(ok.block _ (aS HT1.out)).trans HT1.out;have st0:=((aD W2 mnZ).block _ (aS HT2.out)).trans HT2.out;have hc:∀ i u,(#[Value.slice none 0 0,Value.slice none 0 0,Value.slice none 0 0,Value.slice none 0 0]:Array Value)[i]? =some u→(W2.alloc mnZ).cell? ⟨w.heap.size,i,none⟩=some u:=(fun i u q=>by rw [Lib.cell_of_heap st0];exact q);have hz:∀ i,(W2.alloc mnZ).frozen? ⟨w.heap.size,i,none⟩=false:=(fun i=>by simp [World.frozen?,st0]);have k0:=hc 0 _ rfl;have k1:=hc 1 _ rfl;have k2:=hc 2 _ rfl;have k3:=hc 3 _ rfl;have z0:=hz 0;have z1:=hz 1;have z2:=hz 2;have z3:=hz 3;clear ok HB1 hc hz st0)
  |(have _t:=HB0;go_at_call 138;refine (HL.out _).mono ?_;rintro e W1 ⟨rfl,ok⟩;have HB1:=aB (aA HB0.out ok);have HT1:Hid (W1.heap[w.heap.size]? =some mnZ):=(ok.block _ (aS HT0.out)).trans HT0.out;clear ok HB0))
 have s4:=UM k0 k1 k2 k3 (.slice none 0 0) (.slice none 0 0) (.slice none 0 0) (.slice none 0 0);refine bodyPost_ret (by simp [results,Tryz.results87,s4,go_sem];try rfl) rfl ?_;exact ⟨rfl,((((aA HB2.out (aD _ _)).setCell (p:=⟨w.heap.size,0,none⟩) (Nat.le_refl _) _).setCell (p:=⟨w.heap.size,1,none⟩) (Nat.le_refl _) _).setCell (p:=⟨w.heap.size,2,none⟩) (Nat.le_refl _) _).setCell (p:=⟨w.heap.size,3,none⟩) (Nat.le_refl _) _⟩
theorem sW (w:World):Calls Tryz.prog 87 #[.string ⟨#[]⟩] w fun e w'=>e= .returned (.tuple #[.agg #[.slice none 0 0,.slice none 0 0,.slice none 0 0,.slice none 0 0],.int .i64 22])∧Below w.heap.size w w':=AQ (sA 4096 (by decide)) w
abbrev grZ:Obj:= .cells #[.slice none 0 0] 27
set_option maxHeartbeats 1600000 in
theorem sX (w:World):Calls Tryz.prog 140 #[.slice none 0 0] w fun e w'=>e= .returned (.tuple #[.agg #[.slice none 0 0],.bool false])∧Below w.heap.size w w':=by
 go_enter Tryz.func140,Tryz.ntmps140
 go_wp2
 refine bodyPost_ret (by simp [results,Tryz.results140,go_sem];try rfl) rfl ?_;exact ⟨rfl,aD _ _⟩
set_option maxHeartbeats 1600000 in
theorem wM {t:ByteArray} (hl:∀ W,Calls Tryz.prog 138 #[.string t,.int .i64 1048576] W fun e w'=>e= .returned (.tuple #[.slice none 0 0,.int .i64 0,.int .i64 0])∧Below W.heap.size W w') (w:World):Calls Tryz.prog 88 #[.string t] w fun e w'=>e= .returned (.tuple #[.agg #[.slice none 0 0],.int .i64 22])∧Below w.heap.size w w':=by
 have HL:=aB hl;have HR:=aB sX;obtain ⟨A0,hA0⟩:∃ A,A=w.alloc grZ:=⟨_,rfl⟩;have HB0:Hid (Below w.heap.size w A0):=by rw [hA0];exact aD _ _
 have HT0:Hid (A0.heap[w.heap.size]? =some grZ):=by rw [hA0];exact World.alloc_heap_new w _
 clear hl
 go_enter Tryz.func88,Tryz.ntmps88
 go_upto_region 1 with fail
 rw [←hA0];clear hA0
 go_wp2_with (first
  |(have _t:=HB1;go_at_call 140;refine (HR.out _).mono ?_;rintro e W2 ⟨rfl,ok⟩;have HB2:=aB (aA HB1.out ok);have HT2:Hid (W2.heap[w.heap.size]? =some grZ):=(ok.block _ (aS HT1.out)).trans HT1.out;have st0:=((aD W2 grZ).block _ (aS HT2.out)).trans HT2.out;have k0:(W2.alloc grZ).cell? ⟨w.heap.size,0,none⟩=some (.slice none 0 0):=(by rw [Lib.cell_of_heap st0];rfl);have z0:(W2.alloc grZ).frozen? ⟨w.heap.size,0,none⟩=false:=(by simp [World.frozen?,st0]);clear ok HB1 st0)
  |(have _t:=HB0;go_at_call 138;refine (HL.out _).mono ?_;rintro e W1 ⟨rfl,ok⟩;have HB1:=aB (aA HB0.out ok);have HT1:Hid (W1.heap[w.heap.size]? =some grZ):=(ok.block _ (aS HT0.out)).trans HT0.out;clear ok HB0))
 have s1:=World.cell?_setCell_same (W2.alloc grZ) ⟨w.heap.size,0,none⟩ (.slice none 0 0) k0;refine bodyPost_ret (by simp [results,Tryz.results88,s1,go_sem];try rfl) rfl ?_;exact ⟨rfl,(aA HB2.out (aD _ _)).setCell (p:=⟨w.heap.size,0,none⟩) (Nat.le_refl _) _⟩
theorem sC (w:World):Calls Tryz.prog 88 #[.string ⟨#[]⟩] w fun e w'=>e= .returned (.tuple #[.agg #[.slice none 0 0],.int .i64 22])∧Below w.heap.size w w':=wM (sA 1048576 (by decide)) w
end Go.Proofs.YtlmpiohbmlddiaaGreatDoor
namespace Go.Proofs.YtlmpiohbmlddiaaGreatDoor
open Go.RowKit Go.Maps Go.WideMaps
set_option maxRecDepth 100000
theorem wN:aL iJ=true:=by
 unfold aL eI;have h1:fY [iJ.d,iJ.v,iJ.o]=true:=JV;rw [h1];decide+kernel
theorem sD:bU [drZ]=true:=by
 refine dL.2 ⟨⟨by decide,by decide⟩,?_,fun i hi hne=>by simp at hi;omega⟩;rw [lW (by decide)];unfold kQ;rw [show ([drZ]:List Dr)[0]=drZ from rfl,aO (show drZ.pk=iU from rfl)];rfl
theorem AR:iY [drZ] [ndZ]=0∧eH [drZ] [ndZ]=[0]:=by
 have h1:dM [ndZ]=true:=by decide+kernel
 have h2:fH [drZ] [ndZ]=some [0]:=rfl;refine ⟨?_,?_⟩
 · unfold iY
   rw [if_pos sD,if_pos h1,h2];rfl
 · unfold eH
   rw [if_pos ⟨sD,h1⟩,h2];rfl
theorem KC:eE iJ [ndZ] [drZ]=true:=by
 unfold eE;rw [wN,AR.1,AR.2,zI (fun i h=>by simp at h),aO (show ([drZ]:List Dr).map Dr.nd=[0] from rfl)];decide+kernel
theorem AU:eV iJ [ndZ] [drZ] false=true:=by
 unfold eV;rw [aO rfl];rfl
theorem oI:eF iJ [ndZ] [drZ] false=[]∧erI iJ [ndZ] [drZ]=0:=by
 unfold eF erI;rw [KC,AU]
 simp
def xF:Fi:=⟨⟨#[47,120]⟩,false,⟨#[]⟩⟩
theorem RR (s:ByteArray) (h:xF.pa≠s):cF (([xF]:List Fi).foldl aY []) s=TE:=by
 have h1:([xF]:List Fi).foldl aY []=[xF]:=by simp [aY]
 rw [h1];unfold cF rV;rw [List.find?_cons_of_neg (by simpa using h),List.find?_nil];rfl
theorem OZ:gMn ⟨#[]⟩=iJ:=by
 unfold gMn;rw [if_neg];unfold uG;rw [if_pos (by decide+kernel),if_neg (by decide+kernel)];decide+kernel
theorem PA:gGr ⟨#[]⟩=[]:=by
 have h3:Lo.wD ⟨#[]⟩=none:=by decide+kernel
 unfold gGr;rw [h3];rfl
theorem UA (w:World):PrsOk w [xF]:=by
 have hm:(cF (([xF]:List Fi).foldl aY []) jA).da=⟨#[]⟩:=by rw [RR jA (by decide)];rfl
 have hl:(cF (([xF]:List Fi).foldl aY []) fI).da=⟨#[]⟩:=by rw [RR fI (by decide)];rfl
 refine ⟨fun W _=> ?_,fun W _=> ?_,fun x hx hs=> ?_⟩
 · rw [hm,OZ]
   refine (sW W).mono ?_;rintro e w' ⟨rfl,hb⟩;exact ⟨_,_,_,_,_,_,_,_,_,_,_,_,_,rfl,⟨[],[],[],[],⟨OwnD.nil _ _,rfl⟩,⟨OwnD.nil _ _,rfl⟩,⟨OwnD.nil _ _,rfl⟩,OwnD.nil _ _,rfl⟩,hb⟩
 · rw [hl,PA]
   refine (sC W).mono ?_;rintro e w' ⟨rfl,hb⟩;exact ⟨_,_,_,_,rfl,⟨[],rfl,⟨rfl,Or.inl ⟨rfl,rfl⟩⟩,fun x hx=>by cases hx⟩,hb⟩
 · obtain rfl:=List.mem_singleton.1 hx
   have h0:(bY xF.pa.data.toList).isSome=false:=by decide+kernel
   rw [h0] at hs;cases hs
theorem UB:¬ gOk [xF]:=fun h=>by
 have h1:([xF]:List Fi).foldl aY []=[xF]:=by simp [aY]
 have h2:cF [xF] fI=TE:=by
  unfold cF rV;rw [List.find?_cons_of_neg (by decide),List.find?_nil];rfl
 have h3:Lo.wD ⟨#[]⟩=none:=by decide+kernel
 have h4:gG [xF]=[]:=by
  unfold gG gGr;rw [h1,h2];show (Lo.wD ⟨#[]⟩).getD []=[];rw [h3];rfl
 have h5:=h.1;unfold erI eE at h5;rw [h4] at h5;have h6:Lo.dI []=false:=rfl;rw [h6] at h5
 simp at h5
theorem StOwn.lens {w:World} {B:Nat} {sv:Value} {P:Mn} {G:List Nd} {L:List Dr} {pr:Bool} (h:StOwn w B sv P G L pr):∃ a1 n1 c1 a2 n2 c2 a3 n3 c3 a4 n4 c4 ag cg at_ ct,sv= .agg #[.slice a1 n1 c1,.slice a2 n2 c2,.slice a3 n3 c3,.slice a4 n4 c4,.slice ag G.length cg,.slice at_ L.length ct,.bool pr]∧MnAt w P (.slice a1 n1 c1) (.slice a2 n2 c2) (.slice a3 n3 c3) (.slice a4 n4 c4)∧NodesAt w (.slice ag G.length cg) G∧DirsAt w (.slice at_ L.length ct) L:=by
 obtain ⟨a1,n1,c1,a2,n2,c2,a3,n3,c3,a4,n4,c4,ag,ng,cg,at_,nt,ct,e,h1,h2,ys,h3,h4⟩:=h;have hg:=h2.at;have hd:=h3.at;rw [h4] at hd;obtain ⟨_,_,e2,_⟩:=hg;obtain ⟨_,_,e3,_⟩:=hd;have hg:=h2.at;have hd:=h3.at;rw [h4] at hd;injection e2 with _ q2 _
 injection e3 with _ q3 _
 subst q2;subst q3;exact ⟨_,_,_,_,_,_,_,_,_,_,_,_,_,_,_,_,e,h1.at,hg,hd⟩
theorem TI:kR [drZ]:=by
 have h:∀ d ∈ ([drZ]:List Dr),d.pa.length*16≤140737488355328∧PgZ d.pk:=fun d hd=>by
  obtain rfl:=List.mem_singleton.1 hd;exact ⟨by decide,by decide,by decide,by decide⟩
 exact ⟨fun d hd=>(h d hd).1,fun d hd=>(h d hd).2⟩
theorem DV {W:World} {B:Nat} {sv:Value} (h:StOwn W B sv iJ [ndZ] [drZ] false) (he:Env W) (hf:FL W):Calls Tryz.prog 8 #[sv] W fun e w'=>∃ a c,e= .returned (.tuple #[.slice a 0 c,.int .i64 0])∧Below W.heap.size W w':=by
 obtain ⟨a1,n1,c1,a2,n2,c2,a3,n3,c3,a4,n4,c4,ag,cg,at_,ct,rfl,h1,h2,h3⟩:=h.lens;have hgz:sP [ndZ]:=⟨by decide,fun n hn=>by obtain rfl:=List.mem_singleton.1 hn;decide⟩;refine (kG h1 ⟨by decide,by decide,by decide,by decide⟩ h2 h3 (by decide) TI hgz mK he hf).mono ?_;rintro e w' ⟨v,rfl,ho,hb⟩;rw [oI.1] at ho;obtain ⟨a,c,rfl⟩:=ho.form;exact ⟨a,c,by rw [oI.2];rfl,hb⟩
theorem KD (W:World):Calls Tryz.prog 12 #[.slice none 0 0] W fun e w'=>∃ a1 n1 c1 a2 n2 c2 a3 n3 c3 a4 n4 c4 ag cg at_ ct,e= .returned (.tuple #[.agg #[.slice a1 n1 c1,.slice a2 n2 c2,.slice a3 n3 c3,.slice a4 n4 c4,.slice ag 1 cg,.slice at_ 1 ct,.bool false],.int .i64 0])∧Below W.heap.size W w':=by
 have hfl:FlsAt W (.slice none 0 0) []:=⟨none,0,rfl,Nat.le_refl _,fun i hi=>by cases hi⟩;refine (DT hfl).mono ?_;rintro e w' ⟨sv,er,rfl,⟨h1,_⟩,hb⟩;obtain ⟨rfl,hst⟩:=h1 rfl;obtain ⟨a1,n1,c1,a2,n2,c2,a3,n3,c3,a4,n4,c4,ag,cg,at_,ct,rfl,_⟩:=hst.lens;exact ⟨_,_,_,_,_,_,_,_,_,_,_,_,_,_,_,_,rfl,hb⟩
theorem KE {W:World} {N:Nat} (h:W.heap[N]? =some (.cells #[.string ⟨#[47,120]⟩,.bool false,.string ⟨#[]⟩] 45)) (he:Env W) (hf:FL W):Calls Tryz.prog 12 #[.slice (some ⟨N,0,none⟩) 1 1] W fun e w'=>e= .returned (.tuple #[.agg #[.slice none 0 0,.slice none 0 0,.slice none 0 0,.slice none 0 0,.slice none 0 0,.slice none 0 0,.bool false],.int .i64 43])∧Below W.heap.size W w':=by
 have hfl:FlsAt W (.slice (some ⟨N,0,none⟩) 1 1) [xF]:=by
  refine ⟨_,1,rfl,Nat.le_refl _,fun i hi=>⟨N,0,rfl,?_⟩⟩;obtain rfl:i=0:=by simp at hi;omega
  refine ⟨⟨?_,?_,?_⟩,aS h⟩<;>rw [Lib.cell_of_heap h]<;>rfl
 refine (DU hfl (by simp) (by decide) (fun x hx=>by obtain rfl:=List.mem_singleton.1 hx;decide) (fun us hu=>by obtain rfl:us=[xF]:=List.perm_singleton.1 hu;exact UA W) he hf).mono ?_;rintro e w' ⟨sv,er,rfl,⟨_,_,h3⟩,hb⟩;obtain ⟨us,hpu,_,hno⟩:=h3 (by simp) (by decide);obtain rfl:us=[xF]:=List.perm_singleton.1 hpu.1;obtain ⟨rfl,rfl⟩:=hno UB;exact ⟨rfl,hb⟩
set_option maxHeartbeats 6400000 in
theorem AV {w:World} (he:Env w) (hf:FL w):Calls Tryz.prog 11 #[] w fun e w'=>e= .returned (.bool true)∧Below w.heap.size w w':=by
 have HFE:Hid (∀ W B sv,Below w.heap.size w W→StOwn W B sv iJ [ndZ] [drZ] false→Calls Tryz.prog 8 #[sv] W fun e w'=>∃ a c,e= .returned (.tuple #[.slice a 0 c,.int .i64 0])∧Below W.heap.size W w'):=fun W B sv hb hs=>DV hs (he.below hb) (hf.below hb)
 have HRE:Hid (∀ W,Below w.heap.size w W→Calls Tryz.prog 12 #[.slice none 0 0] W fun e w'=>∃ a1 n1 c1 a2 n2 c2 a3 n3 c3 a4 n4 c4 ag cg at_ ct,e= .returned (.tuple #[.agg #[.slice a1 n1 c1,.slice a2 n2 c2,.slice a3 n3 c3,.slice a4 n4 c4,.slice ag 1 cg,.slice at_ 1 ct,.bool false],.int .i64 0])∧Below W.heap.size W w'):=fun W _=>KD W
 have HRX:Hid (∀ W,Below w.heap.size w W→Calls Tryz.prog 12 #[.slice (some ⟨W.heap.size,0,none⟩) 1 1] (W.alloc (.cells #[.string ⟨#[47,120]⟩,.bool false,.string ⟨#[]⟩] 45)) fun e w'=>e= .returned (.tuple #[.agg #[.slice none 0 0,.slice none 0 0,.slice none 0 0,.slice none 0 0,.slice none 0 0,.slice none 0 0,.bool false],.int .i64 43])∧Below W.heap.size W w'):=fun W hb=>(KE (World.alloc_heap_new W _) (he.below (aA hb (aD _ _))) (hf.below (aA hb (aD _ _)))).mono fun e w' h=>⟨h.1,aA (aD _ _) h.2⟩
 clear he hf
 go_enter Tryz.func11,Tryz.ntmps11
 go_upto_region 2 with (first
  |(have _t:=HS1;go_at_call 8;refine (HFE.out _ _ _ HB1.out HS1.out).mono ?_;rintro e W2 ⟨fa,fc,rfl,ok⟩;have HB2:=aB (aA HB1.out ok);clear ok HS1)
  |(go_at_call 33;refine (lH _).mono ?_;rintro e W1 ⟨g1,g2,rfl,h1,h2,hB1,hB2,ok⟩;have HS1:=aB (AP h1 h2 hB1 hB2);have HB1:=aB ok;clear h1 h2 hB1 hB2 ok))
 go_upto_region 3 with (go_at_call 12;refine (HRE.out _ HB2.out).mono ?_;rintro e W3 ⟨a1,n1,c1,a2,n2,c2,a3,n3,c3,a4,n4,c4,ag,cg,at_,ct,rfl,ok⟩;have HB3:=aB (aA HB2.out ok);clear ok)
 obtain ⟨U3,hU3⟩:∃ U,U=W3.alloc (.cells #[.slice a1 n1 c1,.slice a2 n2 c2,.slice a3 n3 c3,.slice a4 n4 c4,.slice ag 1 cg,.slice at_ 1 ct,.bool false] 32):=⟨_,rfl⟩;have HBU:Hid (Below w.heap.size w U3):=by rw [hU3];exact aA HB3.out (aD _ _)
 have HNU:Hid (U3.heap[W3.heap.size]? =some (.cells #[.slice a1 n1 c1,.slice a2 n2 c2,.slice a3 n3 c3,.slice a4 n4 c4,.slice ag 1 cg,.slice at_ 1 ct,.bool false] 32)):=by rw [hU3];exact World.alloc_heap_new W3 _
 rw [←hU3];clear hU3
 go_upto_region 4 with (go_at_call 12;refine (HRX.out _ HBU.out).mono ?_;rintro e W4 ⟨rfl,ok⟩;have HB4:=aB (aA HBU.out ok);have HN4:Hid (W4.heap[W3.heap.size]? =some (.cells #[.slice a1 n1 c1,.slice a2 n2 c2,.slice a3 n3 c3,.slice a4 n4 c4,.slice ag 1 cg,.slice at_ 1 ct,.bool false] 32)):=(ok.block _ (aS HNU.out)).trans HNU.out;clear ok)
 obtain ⟨U4,hU4⟩:∃ U,U=W4.alloc stZ:=⟨_,rfl⟩;have HB5:Hid (Below w.heap.size w U4):=by rw [hU4];exact aA HB4.out (aD _ _)
 have HN5:Hid (U4.heap[W3.heap.size]? =some (.cells #[.slice a1 n1 c1,.slice a2 n2 c2,.slice a3 n3 c3,.slice a4 n4 c4,.slice ag 1 cg,.slice at_ 1 ct,.bool false] 32)):=by rw [hU4];exact ((aD W4 stZ).block _ (aS HN4.out)).trans HN4.out
 rw [←hU4];clear hU4;have x4:U4.cell? ⟨W3.heap.size,4,none⟩=some (.slice ag 1 cg):=by rw [Lib.cell_of_heap HN5.out];rfl
 have x5:U4.cell? ⟨W3.heap.size,5,none⟩=some (.slice at_ 1 ct):=by rw [Lib.cell_of_heap HN5.out];rfl
 go_wp2_with fail
 go_ret;exact ⟨rfl,HB5.out⟩
end Go.Proofs.YtlmpiohbmlddiaaGreatDoor
