/- Iy0, Iy1, Iy2, Iy3, Iy4: their declarations that are needed, laid in one text, remarks and blanks left out. -/
import Derived.Test.YtlmpiohbmlddiaaGreatDoorMo20
namespace Go.Proofs.YtlmpiohbmlddiaaGreatDoor
open Go.RowKit Go.Maps Go.WideMaps
set_option maxRecDepth 100000
def sT (w:World) (g o:Nat) (x:Fi):Prop:=(w.cell? ⟨g,o,none⟩=some (.string x.pa)∧w.cell? ⟨g,o+1,none⟩=some (.bool x.dr)∧w.cell? ⟨g,o+2,none⟩=some (.string x.da))∧g<w.heap.size
theorem wK (g o:Nat) (x:Fi):KeepP fun w=>sT w g o x:=fun _ _ h hb=>⟨⟨(hb.cell (p:=⟨g,o,none⟩) h.2).trans h.1.1,(hb.cell (p:=⟨g,o+1,none⟩) h.2).trans h.1.2.1,(hb.cell (p:=⟨g,o+2,none⟩) h.2).trans h.1.2.2⟩,Nat.lt_of_lt_of_le h.2 hb.size⟩
def FlsAt (w:World) (v:Value) (fs:List Fi):Prop:=∃ a c,v= .slice a fs.length c∧fs.length≤c∧∀ i (hi:i<fs.length),∃ g o,a=some ⟨g,o,none⟩∧sT w g (o+i*3) fs[i]
theorem FlsAt.below {w w':World} {v:Value} {fs:List Fi} (h:FlsAt w v fs) (hb:Below w.heap.size w w'):FlsAt w' v fs:=by
 obtain ⟨a,c,e,hc,hf⟩:=h;refine ⟨a,c,e,hc,fun i hi=> ?_⟩;obtain ⟨g,o,e,h⟩:=hf i hi;exact ⟨g,o,e,wK _ _ _ _ _ h hb⟩
set_option maxHeartbeats 2000000 in
theorem OV (n:Nat) (hn:1≤n) (l Bm:Nat) {w:World} {a:Option Addr} {c:Nat} {ts:List Fi} (hts:∀ i (hi:i<ts.length),∃ g o,a=some ⟨g,o,none⟩∧sT w g (o+i*3) ts[i]) (hz:ts.length≤1000000) (J:List Fi→World→Prop)
 (hJb:∀ V W1,J V W1→Below w.heap.size w W1)
 (hY:∀ pre x W,J pre W→pre.length<ts.length→YieldAt Fence.wide (n - 1) Tryz.prog l #[fS x] W fun e W'=>e= .returned (.bool true)∧J (pre++[x]) W'∧KeepsWalks W W')
 (W:World) (hJ:AbidesFrom W.heap.size J) (hm:w.cell? ⟨Bm,0,none⟩=some (.slice a ts.length c)) (hBm:Bm<w.heap.size) (h0:J [] W):
 CallsIn Fence.wide n Tryz.prog 85 #[.func (.yield l) #[] #[],.pointer (some ⟨Bm,0,none⟩)] W fun e W'=>(∃ v,e= .returned v)∧∃ V:List Fi,V=ts∧J V W':=by
 refine callsIn_of_wp Tryz.func85 rfl trivial ?_ rfl;simp only [Tryz.ntmps85,List.size_toArray,List.length_cons,List.length_nil,Nat.reduceAdd,Nat.reduceSub,Array.replicate_succ,Array.replicate_zero,List.push_toArray,List.append_toArray,List.nil_append,List.cons_append];have hm0:W.cell? ⟨Bm,0,none⟩=some (.slice a ts.length c):=((hJb _ _ h0).cell (p:=⟨Bm,0,none⟩) hBm).trans hm
 gi_wp2
 gi_loopw [7] (fun vi wr=>∃ k:Nat,k≤ts.length∧vi= .int .i64 k∧J (ts.take k) wr) (fun vi _=>ts.length - (intOf vi).toNat)
 case atStart=>exact ⟨0,Nat.zero_le _,rfl,by rw [List.take_zero];exact h0⟩
 case round=>
  obtain ⟨k,hk,rfl,hJs⟩:=hrel
  by_cases hlt:k<ts.length
  · have hki:(k:Int)<(ts.length:Int):=by omega
    obtain ⟨g,o,rfl,hfl⟩:=hts k hlt;obtain ⟨⟨f0,f1,f2⟩,_⟩:=wK _ _ _ _ _ hfl (hJb _ _ hJs);have hJ3:J (ts.take k) (wr.alloc (.cells #[.string ts[k].pa,.bool ts[k].dr,.string ts[k].da] 45)):=hJ _ wr _ none hJs (World.grownBy_alloc _ _ _) (fun r e=>by cases e);have hen:ts.take (k+1)=ts.take k++[ts[k]]:=List.take_succ_eq_append_getElem hlt;obtain ⟨fn,tmps,assign,body,hy,hR⟩:=hY (ts.take k) ts[k] _ hJ3 (by rw [List.length_take];omega);rw [←hen] at hR;unfold fS at hy;clear hen hfl hJs hJ3;generalize ts[k]=x at*
    gi_wp2
    refine hR.mono ?_;rintro e W3 ⟨rfl,hJ4,hk3⟩
    gi_wp2
    go_roundw
    case rel=>exact ⟨k+1,by omega,by go_num,hJ4⟩
    case measure=>simp [intOf];omega
  · obtain rfl:k=ts.length:=by omega
    rw [List.take_length] at hJs
    gi_wp2
    go_end0
    exact ⟨⟨_,rfl⟩,ts,rfl,hJs⟩
theorem AB (n:Nat) (hn:1≤n) (Bm:Nat) {w:World} {a:Option Addr} {c:Nat} {ts:List Fi} (hts:∀ i (hi:i<ts.length),∃ g o,a=some ⟨g,o,none⟩∧sT w g (o+i*3) ts[i]) (hz:ts.length≤1000000) (hm:w.cell? ⟨Bm,0,none⟩=some (.slice a ts.length c)) (hBm:Bm<w.heap.size):
 GJ Fence.wide n Tryz.prog 85 #[.pointer (some ⟨Bm,0,none⟩)] fS (fun V=>V=ts) ts.length w:=fun l J W _ hJ hJb hY h0=>
 OV n hn l Bm hts hz J hJb hY W hJ hm hBm h0
theorem AD (a:Option Addr) (k c:Nat) (w:World):Calls Tryz.prog 34 #[.slice a k c] w fun e w'=>e= .returned (.func (.func 85) #[] #[.pointer (some ⟨w.heap.size,0,none⟩)])∧w'=w.alloc (.cells #[.slice a k c] 33):=by
 go_enter Tryz.func34,Tryz.ntmps34
 go_wp2
 go_ret;exact ⟨rfl,rfl⟩
theorem AE {w:World} {a:Option Addr} {c:Nat} {ts:List Fi} (h:FlsAt w (.slice a ts.length c) ts) (hz:ts.length≤1000000):
 Calls Tryz.prog 23 #[.func (.func 85) #[] #[.pointer (some ⟨w.heap.size,0,none⟩)]] (w.alloc (.cells #[.slice a ts.length c] 33)) fun e w'=>∃ (v:Value) (us:List Fi),e= .returned v∧(us.Perm ts∧lC us)∧w'.ownsRow w.heap.size 45 3 v us.length (us.flatMap dT)∧Below w.heap.size w w':=by
 have hb:Below w.heap.size w (w.alloc (.cells #[.slice a ts.length c] 33)):=(Below.refl _ _).alloc (Nat.le_refl _) _;obtain ⟨a',c',e,_,hf⟩:=h.below hb;cases e;have hs:=oA 85 #[.pointer (some ⟨w.heap.size,0,none⟩)] (enters_of Tryz.func85 (by kernel_rfl) rfl) (fun V=>V=ts) ts.length hz (fun V hV=>by rw [hV];omega) _ (AB 4 (by decide) w.heap.size hf hz (by rw [World.cell?_alloc_new];rfl) (by simp));refine hs.mono ?_;rintro e w' ⟨v,V,us,rfl,rfl,hp,ho,hbb⟩;have hsz:w.heap.size≤(w.alloc (.cells #[.slice a V.length c] 33)).heap.size:=by simp
 exact ⟨v,us,rfl,hp,⟨ho.1,ho.2.imp id fun ⟨g,cap,cur,h1,h2,r⟩=>⟨g,cap,cur,h1,Nat.le_trans hsz h2,r⟩⟩,hb.trans (hbb.mono hsz)⟩
theorem OwnFi.at {w:World} {B:Nat} {v:Value} {ts:List Fi} (h:OwnFi w B v ts):FlsAt w v ts:=by
 rcases RD h with ⟨rfl,rfl⟩|⟨g,cap,rfl,hc,hg,_,hcell⟩
 · exact ⟨none,0,rfl,Nat.le_refl _,fun i hi=>by cases hi⟩
 · refine ⟨_,cap,rfl,hc,fun i hi=>⟨g,0,rfl,⟨?_,?_,?_⟩,hg⟩⟩
   · rw [Nat.zero_add];exact hcell _ _ (wJ ts i hi).1
   · rw [Nat.zero_add];exact hcell _ _ (wJ ts i hi).2.1
   · rw [Nat.zero_add];exact hcell _ _ (wJ ts i hi).2.2
def TE:Fi:=⟨⟨#[]⟩,false,⟨#[]⟩⟩
def rV (L:List Fi) (s:ByteArray):Option Fi:=L.find? fun x=>decide (x.pa=s)
def cF (L:List Fi) (s:ByteArray):Fi:=(rV L s).getD TE
theorem JX {L:List Fi} {s:ByteArray} {x:Fi} (h:rV L s=some x):x ∈ L∧x.pa=s:=⟨List.mem_of_find?_eq_some h,by have:=List.find?_some (p:=fun y:Fi=>decide (y.pa=s)) h;exact of_decide_eq_true this⟩
theorem JY {L:List Fi} {s:ByteArray} (h:rV L s=none):∀ x ∈ L,x.pa≠s:=fun x hx e=>by
 have:=List.find?_eq_none.1 h x hx
 rw [decide_eq_true_eq] at this;exact this e
theorem pF (w:World):(zeroValue 45).run Tryz.prog w= .ok (.agg #[.string ⟨#[]⟩,.bool false,.string ⟨#[]⟩]) w:=by kernel_rfl
theorem kK {v u:Value} {ps:List MemPlace} (h:eM v=some (.held u,ps)):v=u:=by
 unfold eM at h;injection h with h
 injection h with h _
 injection h
theorem uQ {w:World} {mb n:Nat} {D:DataW Value} {L:List Fi} (h:w.ownsMap Tryz.prog 9 eM mb n D) (hD:MapF D L) (s:ByteArray) (hs:s.size≤maxLen):
 (Instr.lookup 74 (.map (some mb)) (.string s) true).run Tryz.prog w= .ok (.tuple #[.agg #[.string (cF L s).pa,.bool (cF L s).dr,.string (cF L s).da],.bool (rV L s).isSome]) w∧
 (Instr.lookup 74 (.map (some mb)) (.string s) false).run Tryz.prog w= .ok (.agg #[.string (cF L s).pa,.bool (cF L s).dr,.string (cF L s).da]) w:=by
 unfold cF;cases hf:rV L s with
 |some x=>
  obtain ⟨hx,rfl⟩:=JX hf;have hm:=hD.has x hx
  constructor
  · obtain ⟨v,ps,h1,h2⟩:=h.look_ok jL Tryz.underlying74 (pF w) (zd:= .held (.agg #[.string ⟨#[]⟩,.bool false,.string ⟨#[]⟩])) (zp:=[]) rfl (mP hs)
    rw [hm.2] at h2;rw [hm.1] at h1;rw [h1,kK h2];rfl
  · obtain ⟨v,ps,h1,h2⟩:=h.lookup jL Tryz.underlying74 (pF w) (zd:= .held (.agg #[.string ⟨#[]⟩,.bool false,.string ⟨#[]⟩])) (zp:=[]) rfl (mP hs)
    rw [hm.2] at h2;rw [h1,kK h2];rfl
 |none=>
  have hm:Maps.has D (eC s)=false:=by
   rw [Bool.eq_false_iff];intro q;obtain ⟨x,hx,e⟩:=hD.keys _ q;exact JY hf x hx (pG e).symm
  constructor
  · obtain ⟨v,ps,h1,h2⟩:=h.look_ok jL Tryz.underlying74 (pF w) (zd:= .held (.agg #[.string ⟨#[]⟩,.bool false,.string ⟨#[]⟩])) (zp:=[]) rfl (mP hs)
    rw [atKey_of_not_has hm] at h2;rw [hm] at h1;rw [h1,kK h2];rfl
  · obtain ⟨v,ps,h1,h2⟩:=h.lookup jL Tryz.underlying74 (pF w) (zd:= .held (.agg #[.string ⟨#[]⟩,.bool false,.string ⟨#[]⟩])) (zp:=[]) rfl (mP hs)
    rw [atKey_of_not_has hm] at h2;rw [h1,kK h2];rfl
theorem GF (w:World) (p:ByteArray) (d:Bool) (t:ByteArray):(Instr.field 45 (.agg #[.string p,.bool d,.string t]) 2).run Tryz.prog w= .ok (.string t) w:=by kernel_rfl
set_option maxHeartbeats 3200000 in
theorem AF {ts:List Fi} {v:Value} {w:World} (h:FlsAt w v ts) (hz:ts.length≤1000000) (hs:∀ x ∈ ts,x.pa.size≤maxLen):
 Calls Tryz.prog 86 #[v] w fun e w'=>e= .returned (.map (some w.heap.size))∧(∃ n D,w'.ownsMap Tryz.prog 9 eM w.heap.size n D∧MapF D (ts.foldl aY []))∧Below w.heap.size w w':=by
 have hmm:= @run_makeMap Tryz.prog;obtain ⟨a,c,rfl,_,hf⟩:=h
 have HF:Hid (∀ W,Below w.heap.size w W→∀ i (hi:i<ts.length),∃ g o,a=some ⟨g,o,none⟩∧sT W g (o+i*3) ts[i]):=fun W hb i hi=>by
  obtain ⟨g,o,e,hx⟩:=hf i hi;exact ⟨g,o,e,wK _ _ _ _ _ hx hb⟩
 have HS:=aB hs;have HM0:Hid (∃ n D,n≤0∧(w.alloc (.map #[] 0)).ownsMap Tryz.prog 9 eM w.heap.size n D∧MapF D ((ts.take 0).foldl aY [])):=⟨0,_,Nat.le_refl _,World.ownsMap_made (H:=Value) w Tryz.prog 9 eM,MapF.new⟩;have HB0:Hid (Below w.heap.size w (w.alloc (.map #[] 0))):=(Below.refl _ _).alloc (Nat.le_refl _) _;clear hf hs
 go_enter Tryz.func86,Tryz.ntmps86
 go_wp2_with fail
 go_loopw [9] (fun vi wr=>∃ k:Nat,k≤ts.length∧vi= .int .i64 k∧Hid (∃ n D,n≤k∧wr.ownsMap Tryz.prog 9 eM w.heap.size n D∧MapF D ((ts.take k).foldl aY []))∧Below w.heap.size w wr) (fun vi _=>ts.length - (intOf vi).toNat)
 case atStart=>exact ⟨0,Nat.zero_le _,rfl,HM0,HB0.out⟩
 case round=>
  obtain ⟨k,hk,rfl,HM,hb⟩:=hrel
  by_cases hlt:k<ts.length
  · have hki:(k:Int)<(ts.length:Int):=by omega
    obtain ⟨g,o,rfl,hfl⟩:=HF.out wr hb k hlt;have hsx:=HS.out _ (List.getElem_mem hlt);obtain ⟨n,D,hn,hown,hD⟩:=HM.out
    have hen:(ts.take (k+1)).foldl aY []=aY ((ts.take k).foldl aY []) ts[k]:=by
     rw [List.take_succ_eq_append_getElem hlt,List.foldl_append];rfl
    have hD2:=hD.put ts[k];rw [←hen] at hD2;obtain ⟨⟨f0,f1,f2⟩,_⟩:=hfl;clear HM hD hen HF HS HM0;generalize ts[k]=x at*;obtain ⟨W,hW⟩:∃ W,W=wr.alloc (.cells #[.string x.pa,.bool x.dr,.string x.da] 45):=⟨_,rfl⟩;have hbW:Below wr.heap.size wr W:=by rw [hW];exact aD _ _
    obtain ⟨w2,hup,ho2,hg2⟩:=World.ownsMap.update (t:=74) (e:=45) (bL hown hbW) jL Tryz.underlying74 (by unfold maxLen;omega) (key:= .string x.pa) (val:=fS x) (mP hsx) rfl;unfold fS at hup;have HX:Hid (∃ n D,n≤k+1∧w2.ownsMap Tryz.prog 9 eM w.heap.size n D∧MapF D ((ts.take (k+1)).foldl aY [])):=⟨n+1,_,by omega,ho2,hD2⟩;have HB2:Hid (Below w.heap.size w w2):=(aA hb hbW).grown hg2 (aA hb hbW).size (fun j e=>by cases e;exact Nat.le_refl _);clear ho2 hg2 hown hsx hD2 hbW hb;subst hW
    go_wp2_with fail
    exact ⟨⟨k+1,by omega,by go_num,HX,HB2.out⟩,by simp [intOf];omega⟩
  · obtain rfl:k=ts.length:=by omega
    have HR:Hid (∃ n D,wr.ownsMap Tryz.prog 9 eM w.heap.size n D∧MapF D (ts.foldl aY [])):=by
     obtain ⟨n,D,_,h1,h2⟩:=HM.out;rw [List.take_length] at h2;exact ⟨n,D,h1,h2⟩
    clear HM HM0
    go_wp2_with fail
    go_ret;exact ⟨rfl,HR.out,hb⟩
theorem uR (w:World) (A B C:Obj):(((w.alloc A).alloc B).alloc C).drew.heap[w.heap.size+1]? =some B∧(((w.alloc A).alloc B).alloc C).drew.heap[w.heap.size+1+1]? =some C∧Below w.heap.size w (((w.alloc A).alloc B).alloc C).drew:=by
 have e1:(w.alloc A).heap.size=w.heap.size+1:=by simp
 have e2:((w.alloc A).alloc B).heap.size=w.heap.size+1+1:=by simp
 refine ⟨?_,?_,((((Below.refl _ w).alloc (Nat.le_refl _) _).alloc (by simp) _).alloc (by simp;omega) _).drew⟩
 · show (((w.alloc A).alloc B).alloc C).heap[w.heap.size+1]? =some B
   rw [Below.heap_alloc _ _ _ (by omega),←e1];exact World.alloc_heap_new (w.alloc A) B
 · show (((w.alloc A).alloc B).alloc C).heap[w.heap.size+1+1]? =some C
   rw [←e2];exact World.alloc_heap_new ((w.alloc A).alloc B) C
theorem TF (W:World):(Instr.makeSlice 25 (.int .i64 1) (.int .i64 1)).run Tryz.prog W= .ok (.slice (some ⟨W.heap.size,0,none⟩) 1 1) (W.alloc (.cells #[.string ⟨#[]⟩,.int .i64 0,.int .i64 0,.int .i64 0,.slice none 0 0,.slice none 0 0] 60)):=by kernel_rfl
theorem TX (W:World):(Instr.makeSlice 28 (.int .i64 1) (.int .i64 1)).run Tryz.prog W= .ok (.slice (some ⟨W.heap.size,0,none⟩) 1 1) (W.alloc (.cells #[.slice none 0 0,.string ⟨#[]⟩,.int .i64 0,.int .i64 0,.int .i64 0,.slice none 0 0,.slice none 0 0,.slice none 0 0,.int .i64 0] 56)):=by kernel_rfl
set_option maxHeartbeats 3200000 in
theorem lH (w:World):Calls Tryz.prog 33 #[] w fun e w'=>∃ g1 g2,e= .returned (.agg #[.slice none 0 0,.slice none 0 0,.slice none 0 0,.slice none 0 0,.slice (some ⟨g1,0,none⟩) 1 1,.slice (some ⟨g2,0,none⟩) 1 1,.bool false])∧
 w'.heap[g1]? =some (.cells #[.string ⟨#[]⟩,.int .i64 0,.int .i64 0,.int .i64 0,.slice none 0 0,.slice none 0 0] 60)∧w'.heap[g2]? =some (.cells #[.slice none 0 0,.string ⟨#[]⟩,.int .i64 0,.int .i64 0,.int .i64 0,.slice none 0 0,.slice none 0 0,.slice none 0 0,.int .i64 0] 56)∧w.heap.size≤g1∧w.heap.size≤g2∧Below w.heap.size w w':=by
 have m1:=TF;have m2:=TX
 go_enter Tryz.func33,Tryz.ntmps33
 go_wp2_with fail
 go_region
 · go_wp2
   refine bodyPost_ret (by simp [results,Tryz.results33,go_sem];try rfl) rfl ?_;obtain ⟨h1,h2,h3⟩:=uR w _ _ _;exact ⟨_,_,rfl,h1,h2,by omega,by omega,h3⟩
 · go_wp2
   refine bodyPost_ret (by simp [results,Tryz.results33,go_sem];try rfl) rfl ?_;obtain ⟨h1,h2,h3⟩:=uR w _ _ _;exact ⟨_,_,rfl,h2,h1,by omega,by omega,h3⟩
structure Dv where
 d:Dr
 u:Value
 v1:Value
 v2:Value
 v3:Value
def mL (x:Dv):List Value:=[x.u,.string x.d.pk.nm,.int .i64 x.d.pk.a,.int .i64 x.d.pk.b,.int .i64 x.d.pk.c,x.v1,x.v2,x.v3,.int .i64 x.d.nd]
theorem AG (x:Dv):(mL x).length=9:=rfl
theorem RE:(Tryz.prog.info? 56).map (fun i=>(i.zero,i.size,i.bytes))=some (some (.agg #[.slice none 0 0,.string ⟨#[]⟩,.int .i64 0,.int .i64 0,.int .i64 0,.slice none 0 0,.slice none 0 0,.slice none 0 0,.int .i64 0]),9,144):=by kernel_rfl
def OwnV (w:World) (B:Nat) (x:Dv):Prop:=OwnPa w B x.u x.d.pa∧OwnP w B x.d.pk x.v1 x.v2 x.v3
theorem OwnV.below {w w':World} {B:Nat} {x:Dv} (h:OwnV w B x) (hb:Below w.heap.size w w'):OwnV w' B x:=⟨h.1.below hb,h.2.below hb⟩
theorem OwnD.keptV {w w':World} {B B':Nat} {v v':Value} {ps:List (Dp×Value)} {n':Nat} {ys:List Value} (h:OwnD w B v ps) (hr:w.ownsRow B' 56 9 v' n' ys) (hg:w.grownBy w' v'.ownBlock):OwnD w' B v ps:=⟨World.ownsRow.kept h.1 hg (eO h.1 hr (by decide)),fun p hp=>World.ownsRow.kept (h.2 p hp) hg (eO (h.2 p hp) hr (by decide))⟩
theorem OwnV.kept {w w':World} {B B':Nat} {x:Dv} {v':Value} {n':Nat} {ys:List Value} (h:OwnV w B x) (hr:w.ownsRow B' 56 9 v' n' ys) (hg:w.grownBy w' v'.ownBlock):OwnV w' B x:=by
 obtain ⟨h1,q1,q2,q3,⟨d1,m1⟩,⟨d2,m2⟩,d3,m3⟩:=h;exact ⟨World.ownsRow.kept h1 hg (eO h1 hr (by decide)),q1,q2,q3,⟨d1.keptV hr hg,m1⟩,⟨d2.keptV hr hg,m2⟩,d3.keptV hr hg,m3⟩
theorem OwnV.one {w:World} {B:Nat} {x:Dv} (h:OwnV w B x):∀ v ∈ mL x,v.oneCell'=true:=fun v hv=>by
 obtain ⟨ua,uc,e0⟩:=h.1.at.sl;have hp:=h.2.at;obtain ⟨a1,c1,e1⟩:=hp.1.sl;obtain ⟨a2,c2,e2⟩:=hp.2.1.sl;obtain ⟨a3,c3,e3⟩:=hp.2.2.sl;simp only [mL,List.mem_cons,List.not_mem_nil,or_false] at hv
 rcases hv with rfl|rfl|rfl|rfl|rfl|rfl|rfl|rfl|rfl
 · rw [e0];rfl
 · rfl
 · rfl
 · rfl
 · rfl
 · rw [e1];rfl
 · rw [e2];rfl
 · rw [e3];rfl
 · rfl
def RowV (w:World) (B:Nat) (v:Value) (xs:List Dv):Prop:=w.ownsRow B 56 9 v xs.length (xs.flatMap mL)∧∀ x ∈ xs,OwnV w B x
theorem RowV.below {w w':World} {B:Nat} {v:Value} {xs:List Dv} (h:RowV w B v xs) (hb:Below w.heap.size w w'):RowV w' B v xs:=⟨cP h.1 hb,fun x hx=>(h.2 x hx).below hb⟩
theorem RowV.form {w:World} {B:Nat} {v:Value} {xs:List Dv} (h:RowV w B v xs):∃ a c,v= .slice a xs.length c:=by
 rcases h.1.2 with ⟨rfl,hn⟩|⟨g,cap,cur,rfl,_⟩
 · exact ⟨none,0,by rw [hn]⟩
 · exact ⟨_,_,rfl⟩
theorem GG (xs:List Dv) (i r:Nat) (hi:i<xs.length) (hr:r<9):(xs.flatMap mL)[i*9+r]? =(mL xs[i])[r]? :=by
 haveI:Inhabited Dv:=⟨⟨⟨[],iU,0⟩,undef,undef,undef,undef⟩⟩
 have h:=gK mL 9 (fun _=>rfl) xs i r hi hr
 rwa [getElem!_pos xs i hi] at h
theorem RowV.at {w:World} {B:Nat} {v:Value} {xs:List Dv} (h:RowV w B v xs):DirsAt w v (xs.map Dv.d):=by
 rcases h.1.2 with ⟨rfl,hn⟩|⟨g,cap,cur,rfl,hB,hg,hc,_⟩
 · obtain rfl:xs=[]:=List.length_eq_zero_iff.1 hn
   exact ⟨none,0,rfl,Nat.le_refl _,Or.inl rfl⟩
 · refine ⟨_,cap,by rw [List.length_map],by rw [List.length_map];exact hc,Or.inr ⟨g,0,rfl,fun i hi=> ?_⟩⟩
   rw [List.length_map] at hi;rw [List.getElem_map];have hx:=h.2 _ (List.getElem_mem hi)
   have hcl:∀ r u,r<9→(mL xs[i])[r]? =some u→w.cell? ⟨g,0+i*9+r,none⟩=some u:=fun r u hr e=>by
    rw [Nat.zero_add,World.ownsRow.cellAt h.1 (i*9+r) (by omega),GG xs i r hi hr];exact e
   exact ⟨xs[i].u,xs[i].v1,xs[i].v2,xs[i].v3,⟨hcl 0 _ (by decide) rfl,hcl 1 _ (by decide) rfl,hcl 2 _ (by decide) rfl,hcl 3 _ (by decide) rfl,hcl 4 _ (by decide) rfl,hcl 5 _ (by decide) rfl,hcl 6 _ (by decide) rfl,hcl 7 _ (by decide) rfl,hcl 8 _ (by decide) rfl⟩,⟨hx.1.at,hx.2.at⟩,(Array.getElem?_eq_some_iff.1 hg).1⟩
theorem TG {B:Nat} {wx:World} {v:Value} {xs:List Dv} {x:Dv} {N:Nat} {ops:Array Oper} {rest:List Oper} {o:Oper} {f:Act} {Q:Exit→Act→World→Prop}
 (hgd:o.guard=none) (s t:Operand) (ho:o.op= .call { callee:= .builtin .append,args:= #[s,t],argTypes:= #[28,28] }) (hs:f.eval s=v)
 (hown:RowV wx B v xs) (hB:B≤wx.heap.size) (hx:f.eval t= .slice (some ⟨N,0,none⟩) 1 1) (hov:OwnV wx B x) (hc:∀ j u,(mL x)[j]? =some u→wx.cell? ((⟨N,0,none⟩:Addr).add j)=some u) (hb:xs.length≤1000000)
 (h:∀ v1 w1,RowV w1 B v1 (xs++[x])→wx.grownBy w1 v.ownBlock→wpList Tryz.prog ops Q rest (f.put o.dst v1) w1):
 wpList Tryz.prog ops Q (o::rest) f wx:=by
 obtain ⟨i0,hi,hz0,hz1,hz2⟩:=Sc.bX RE;refine wpList_append_own_wide _ hgd s t 28 ho B 56 i0 _ 9 144 Tryz.underlying28 hi hz0 hz1 hz2 rfl (by decide) v xs.length (xs.flatMap mL) hs hown.1 ⟨N,0,none⟩ 1 1 (mL x) hx rfl hc hov.one (by unfold maxLen;omega) (by omega) hB ?_;intro v1 w1 h1 h2 _;refine h v1 w1 ⟨?_,fun y hy=> ?_⟩ h2
 · rw [List.length_append,List.flatMap_append]
   simpa using h1
 · rcases List.mem_append.1 hy with hy|hy
   · exact (hown.2 y hy).kept hown.1 h2
   · obtain rfl:=List.mem_singleton.1 hy
     exact hov.kept hown.1 h2
noncomputable def gPk (t:ByteArray):Pg:=if zY t=0 then zZ t else iU
noncomputable def AH (M:List Fi) (x:Fi):List Dr:=match bY x.pa.data.toList with
 |some p=>[⟨p,gPk (cF M (x.pa++eT)).da,1⟩]
 |none=>[]
noncomputable def cD (M:List Fi) (ts:List Fi):List Dr:=drZ::ts.flatMap (AH M)
theorem OW (M:List Fi) (x:Fi):(AH M x).length≤1:=by
 unfold AH
 split<;>simp
theorem kL (M:List Fi):∀ ts:List Fi,(ts.flatMap (AH M)).length≤ts.length
 |[]=>by simp
 |x::ts=>by
  rw [List.flatMap_cons,List.length_append,List.length_cons]
  have:=kL M ts
  have:=OW M x
  omega
theorem kM (w1:World) (N k:Nat) (v:Value):w1.grownBy (w1.setCell ⟨N,k,none⟩ v) (some N):=⟨rfl,rfl,rfl,(KeepsWalks.setCell w1 ⟨N,k,none⟩ v).size,fun j _ hj=>Below.heap_setCell _ _ _ j (fun e=>hj (by rw [e]))⟩
theorem OwnV.far {w w':World} {B:Nat} {x:Dv} (h:OwnV w B x) {N:Nat} {cs:Array Value} {t:TypeId} (hN:w.heap[N]? =some (.cells cs t)) (ht:t≠9∧t≠170∧t≠210) (hg:w.grownBy w' (some N)):OwnV w' B x:=by
 have hs:∀ {B e z v n ys},w.ownsRow B e z v n ys→t≠e→w'.ownsRow B e z v n ys:=fun hr hne=>World.ownsRow.kept hr hg (cO hr hN (fun _ q=>hne (Obj.cells.inj q).2.1))
 obtain ⟨h1,q1,q2,q3,⟨d1,m1⟩,⟨d2,m2⟩,d3,m3⟩:=h;have hd:∀ {v:Value} {ps:List (Dp×Value)},OwnD w B v ps→OwnD w' B v ps:=fun hq=>⟨hs hq.1 ht.2.1,fun p hp=>hs (hq.2 p hp) ht.2.2⟩
 exact ⟨hs h1 ht.1,q1,q2,q3,⟨hd d1,m1⟩,⟨hd d2,m2⟩,hd d3,m3⟩
theorem RowV.far {w w':World} {B:Nat} {v:Value} {xs:List Dv} (h:RowV w B v xs) {N:Nat} {cs:Array Value} {t:TypeId} (hN:w.heap[N]? =some (.cells cs t)) (ht:t≠9∧t≠170∧t≠210) (ht2:t≠56) (hg:w.grownBy w' (some N)):RowV w' B v xs:=⟨World.ownsRow.kept h.1 hg (cO h.1 hN (fun _ q=>ht2 (Obj.cells.inj q).2.1)),fun x hx=>(h.2 x hx).far hN ht hg⟩
def zDv:Dv:=⟨drZ,.slice none 0 0,.slice none 0 0,.slice none 0 0,.slice none 0 0⟩
theorem AJ {w:World} {B g:Nat} (h:w.heap[g]? =some (.cells #[.slice none 0 0,.string ⟨#[]⟩,.int .i64 0,.int .i64 0,.int .i64 0,.slice none 0 0,.slice none 0 0,.slice none 0 0,.int .i64 0] 56)) (hB:B≤g):RowV w B (.slice (some ⟨g,0,none⟩) 1 1) [zDv]:=by
 refine ⟨⟨rfl,Or.inr ⟨g,1,_,rfl,hB,h,Nat.le_refl _,by decide,rfl,rfl⟩⟩,fun x hx=> ?_⟩;obtain rfl:=List.mem_singleton.1 hx;exact ⟨⟨rfl,Or.inl ⟨rfl,rfl⟩⟩,[],[],[],⟨OwnD.nil _ _,rfl⟩,⟨OwnD.nil _ _,rfl⟩,OwnD.nil _ _,rfl⟩
structure GtQ (w:World) (N5:Nat) (v:Value) (xs:List Dv) (W:World):Prop where
 box:W.heap[N5]? =some (.cells #[v] 30)
 res:W.heap[w.heap.size]? =some (.cells #[.slice none 0 0] 30)
 row:RowV W w.heap.size v xs
 below:Below w.heap.size w W
 far:w.heap.size<N5
theorem aS {W:World} {N:Nat} {o:Obj} (h:W.heap[N]? =some o):N<W.heap.size:=(Array.getElem?_eq_some_iff.1 h).1
theorem GtQ.keep {w:World} {N5:Nat} {v:Value} {xs:List Dv} {W W':World} (h:GtQ w N5 v xs W) (hb:Below W.heap.size W W'):GtQ w N5 v xs W':=
 ⟨(hb.block _ (aS h.box)).trans h.box,(hb.block _ (aS h.res)).trans h.res,h.row.below hb,aA h.below hb,h.far⟩
theorem GtQ.cell {w:World} {N5:Nat} {v:Value} {xs:List Dv} {W:World} (h:GtQ w N5 v xs W):W.cell? ⟨N5,0,none⟩=some v∧W.frozen? ⟨N5,0,none⟩=false:=by
 constructor<;>simp [World.cell?,World.frozen?,h.box]
theorem RowV.off {W:World} {B:Nat} {v:Value} {xs:List Dv} (h:RowV W B v xs) {N:Nat} {cs:Array Value} (hN:W.heap[N]? =some (.cells cs 30)):∀ g,v.ownBlock=some g→g≠N:=fun g hg e=>by
 subst e
 rcases cO h.1 hN (fun _ q=>absurd (Obj.cells.inj q).2.1 (by decide)) with q|q
 · rw [hg] at q;cases q
 · exact q hg
theorem GtQ.grown {w:World} {N5:Nat} {v:Value} {xs:List Dv} {W W1:World} (h:GtQ w N5 v xs W) {v1:Value} {ys:List Dv} (hr:RowV W1 w.heap.size v1 ys) (hg:W.grownBy W1 v.ownBlock):
 W1.heap[N5]? =some (.cells #[v] 30)∧GtQ w N5 v1 ys (W1.setCell ⟨N5,0,none⟩ v1):=by
 have hb:∀ N (cs:Array Value),W.heap[N]? =some (Obj.cells cs 30)→W1.heap[N]? =some (Obj.cells cs 30):=fun N cs hN=>(hg.block N (aS hN) (fun e=>h.row.off hN N e.symm rfl)).trans hN
 have h5:=hb _ _ h.box;have h0:=hb _ _ h.res;have hs:=kM W1 N5 0 v1;refine ⟨h5,?_,?_,hr.far h5 (by decide) (by decide) hs,?_,h.far⟩
 · simp [World.setCell,Array.getElem?_modify,h5]
 · exact (hs.block _ (aS h0) (fun e=>by have:=Option.some.inj e;have:=h.far;omega)).trans h0
 · exact (h.below.grown hg h.below.size (fun k hk=>(World.ownsRow.lt h.row.1 k hk).1)).grown hs (Nat.le_trans h.below.size hg.size) (fun k e=>by have:=Option.some.inj e;have:=h.far;omega)
theorem RF (w:World) (a b c d e f g:Value):(Instr.field 32 (.agg #[a,b,c,d,e,f,g]) 2).run Tryz.prog w= .ok (.agg #[f]) w:=by kernel_rfl
theorem rW {M ts:List Fi} {k:Nat} (hk:k<ts.length):cD M (ts.take (k+1))=cD M (ts.take k)++AH M ts[k]:=by
 unfold cD;rw [List.take_succ_eq_append_getElem hk,List.flatMap_append,List.flatMap_cons,List.flatMap_nil,List.append_nil,List.cons_append]
abbrev pkO (P:Pg) (a b c:Value):Obj:= .cells #[.string P.nm,.int .i64 P.a,.int .i64 P.b,.int .i64 P.c,a,b,c] 54
abbrev dvO (x:Dv):Obj:= .cells #[x.u,.string x.d.pk.nm,.int .i64 x.d.pk.a,.int .i64 x.d.pk.b,.int .i64 x.d.pk.c,x.v1,x.v2,x.v3,.int .i64 x.d.nd] 56
def PkPr (w:World) (ts:List Fi):Prop:=∀ x ∈ ts,(bY x.pa.data.toList).isSome=true→∀ W,Below w.heap.size w W→∀ t,Calls Tryz.prog 141 #[.string t] W fun e w'=>∃ a1 n1 c1 a2 n2 c2 a3 n3 c3 er,e= .returned (.tuple #[.agg #[.string (gPk t).nm,.int .i64 (gPk t).a,.int .i64 (gPk t).b,.int .i64 (gPk t).c,.slice a1 n1 c1,.slice a2 n2 c2,.slice a3 n3 c3],.int .i64 er])∧OwnP w' W.heap.size (gPk t) (.slice a1 n1 c1) (.slice a2 n2 c2) (.slice a3 n3 c3)∧Below W.heap.size W w'
def GtR (w:World) (M ts:List Fi) (e:Ending) (w':World):Prop:=∃ a n c xs,e= .returned (.agg #[.slice a n c])∧RowV w' w.heap.size (.slice a n c) xs∧xs.map Dv.d=cD M ts∧Below w.heap.size w w'
set_option maxHeartbeats 6400000 in
theorem JZ {ts M:List Fi} {v:Value} {w:World} {mb n0:Nat} {D:DataW Value} (h:FlsAt w v ts) (hz:ts.length≤100000) (hm:w.ownsMap Tryz.prog 9 eM mb n0 D) (hD:MapF D M) (hs:∀ x ∈ ts,x.pa.size≤4611686018427387904∧QD x.pa.data.toList) (hpk:PkPr w ts):
 Calls Tryz.prog 89 #[v,.map (some mb)] w (GtR w M ts):=by
 obtain ⟨a,c,rfl,_,hfl⟩:=h
 have HF:Hid (∀ W,Below w.heap.size w W→∀ i (hi:i<ts.length),∃ g o,a=some ⟨g,o,none⟩∧sT W g (o+i*3) ts[i]):=fun W hb i hi=>by
  obtain ⟨g,o,e,hx⟩:=hfl i hi;exact ⟨g,o,e,wK _ _ _ _ _ hx hb⟩
 have HTP:Hid (∀ W i (hi:i<ts.length),Calls Tryz.prog 58 #[.string ts[i].pa] W fun e w'=>∃ ua un uc,e= .returned (.tuple #[.slice ua un uc,.bool (bY ts[i].pa.data.toList).isSome])∧OwnPa w' W.heap.size (.slice ua un uc) ((bY ts[i].pa.data.toList).getD [])∧Below W.heap.size W w'):=fun W i hi=>by
  obtain ⟨h1,h2⟩:=hs _ (List.getElem_mem hi);refine (CD ts[i].pa (by omega) h2 W).mono ?_;rintro e w' ⟨v,rfl,ho,hb⟩;obtain ⟨ua,uc,rfl⟩:=ho.at.sl;exact ⟨_,_,_,rfl,ho,hb⟩
 have HLK:Hid (∀ W,Below w.heap.size w W→∀ s:ByteArray,s.size≤maxLen→(Instr.lookup 74 (.map (some mb)) (.string s) false).run Tryz.prog W= .ok (.agg #[.string (cF M s).pa,.bool (cF M s).dr,.string (cF M s).da]) W):=fun W hb s hs=>(uQ (bL hm hb) hD s hs).2
 have HPP:Hid (∀ k (hk:k<ts.length),(bY ts[k].pa.data.toList).isSome=true→∀ W,Below w.heap.size w W→∀ t,Calls Tryz.prog 141 #[.string t] W fun e w'=>∃ a1 n1 c1 a2 n2 c2 a3 n3 c3 er,e= .returned (.tuple #[.agg #[.string (gPk t).nm,.int .i64 (gPk t).a,.int .i64 (gPk t).b,.int .i64 (gPk t).c,.slice a1 n1 c1,.slice a2 n2 c2,.slice a3 n3 c3],.int .i64 er])∧OwnP w' W.heap.size (gPk t) (.slice a1 n1 c1) (.slice a2 n2 c2) (.slice a3 n3 c3)∧Below W.heap.size W w'):=fun k hk=>hpk _ (List.getElem_mem hk)
 have HSZ:Hid (∀ i (hi:i<ts.length),ts[i].pa.size≤4611686018427387904):=fun i hi=>(hs _ (List.getElem_mem hi)).1
 have HGD:Hid (∀ k (hk:k<ts.length),(∀ p,bY ts[k].pa.data.toList=some p→cD M (ts.take (k+1))=cD M (ts.take k)++[⟨p,gPk (cF M (ts[k].pa++eT)).da,1⟩])∧(bY ts[k].pa.data.toList=none→cD M (ts.take (k+1))=cD M (ts.take k))):=fun k hk=>⟨fun p hp=>by rw [rW hk];unfold AH;rw [hp],fun hp=>by rw [rW hk];unfold AH;rw [hp,List.append_nil]⟩
 have HGL:Hid (∀ k,(cD M (ts.take k)).length≤1+k):=fun k=>by
  unfold cD;rw [List.length_cons]
  have:=kL M (ts.take k)
  have:(ts.take k).length≤k:=by rw [List.length_take];omega
  omega
 have HEN:Hid (cD M (ts.take ts.length)=cD M ts):=by unfold Hid;rw [List.take_length]
 have HR0:Hid ((w.alloc (.cells #[.slice none 0 0] 30)).heap[w.heap.size]? =some (.cells #[.slice none 0 0] 30)):=World.alloc_heap_new w _;have HB0:Hid (Below w.heap.size w (w.alloc (.cells #[.slice none 0 0] 30))):=aD _ _;have hft:=RF;have hfd:=GF;clear hs hm hpk hfl
 go_enter Tryz.func89,Tryz.ntmps89
 go_upto_region 2 with (go_at_call 33;refine (lH _).mono ?_;rintro e W1 ⟨g1,g2,rfl,_,hg2,_,hB2,hb1⟩;have HG0:Hid (∀ N5,N5=W1.heap.size→GtQ w N5 (.slice (some ⟨g2,0,none⟩) 1 1) [zDv] (W1.alloc (.cells #[.slice (some ⟨g2,0,none⟩) 1 1] 30))):=(fun N5 e=>by subst e;exact ⟨World.alloc_heap_new W1 _,((aD W1 _).block _ (by have:=aS HR0.out;have:=hb1.size;omega)).trans ((hb1.block _ (aS HR0.out)).trans HR0.out),(AJ hg2 (by have:=HB0.out.size;omega)).below (aD _ _),aA (aA HB0.out hb1) (aD _ _),by have:=aS HR0.out;have:=hb1.size;omega⟩);clear hg2 hB2 hb1)
 obtain ⟨N5,hN5⟩:∃ N,N=W1.heap.size:=⟨_,rfl⟩;have HG:=aB (HG0.out N5 hN5);rw [←hN5];clear HG0 HB0 HR0;generalize (W1.alloc (.cells #[.slice (some ⟨g2,0,none⟩) 1 1] 30))=W2 at*;have HGS:Hid (∃ a n c xs,GtQ w N5 (.slice a n c) xs W2∧xs.map Dv.d=cD M (ts.take 0)):=⟨_,_,_,_,HG.out,rfl⟩;clear HG hN5
 go_wp2_with fail
 go_loopw [16] (fun vi wr=>∃ k:Nat,k≤ts.length∧vi= .int .i64 k∧Hid (∃ a n c xs,GtQ w N5 (.slice a n c) xs wr∧xs.map Dv.d=cD M (ts.take k))) (fun vi _=>ts.length - (intOf vi).toNat)
 case atStart=>exact ⟨0,Nat.zero_le _,rfl,HGS⟩
 case round=>
  obtain ⟨k,hk,rfl,HGK⟩:=hrel;clear HGS;obtain ⟨ra,rn,rc,xs,hgq,hxs⟩:=HGK.out;clear HGK;have HQ0:=aB hgq;have HXS:=aB hxs
  have hxl:xs.length≤1+k:=by
   have:=HGL.out k
   rw [←hxs,List.length_map] at this;exact this
  by_cases hlt:k<ts.length
  · have hki:(k:Int)<(ts.length:Int):=by omega
    obtain ⟨g,o,rfl,⟨f0,f1,f2⟩,_⟩:=HF.out wr hgq.below k hlt;have HTC:=aB (fun W=>HTP.out W k hlt);have hsz:=HSZ.out k hlt;obtain ⟨hgy,hgn⟩:=HGD.out k hlt;have HGY:=aB hgy;have HGN:=aB hgn;have HQ1:Hid (GtQ w N5 (.slice ra rn rc) xs (wr.alloc (.cells #[.string ts[k].pa,.bool ts[k].dr,.string ts[k].da] 45))):=hgq.keep (aD _ _);have HX1:Hid ((wr.alloc (.cells #[.string ts[k].pa,.bool ts[k].dr,.string ts[k].da] 45)).cell? ⟨wr.heap.size,0,none⟩=some (.string ts[k].pa)):=by unfold Hid;rw [World.cell?_alloc_new];rfl
    have hpz:eT.size=8:=rfl;have e1:=fun W:World=>run_string_add_sum (P:=Tryz.prog) (w:=W) ts[k].pa eT (by omega)
    have HSM:Hid ((ts[k].pa++eT).size≤maxLen):=by unfold Hid maxLen;rw [bG];omega
    have HLC:=aB (fun W hb=>HLK.out W hb (ts[k].pa++eT) HSM.out);clear hgq hxs hgy hgn HTP HSZ HGD HF HSM hpz HQ0;generalize (cF M (ts[k].pa++eT))=fx at*;cases hpv:bY ts[k].pa.data.toList with
    |none=>
     rw [hpv] at HTC HGN;have HR:=aB (HGN.out rfl);clear HGY HGN HLC HPP hpv;generalize ts[k]=x at*
     go_wp2_with (go_at_call 58;refine (HTC.out _).mono ?_;rintro e V1 ⟨ua,un,uc,rfl,_,ok⟩;have HQ2:=aB (HQ1.out.keep ok);clear HQ1 ok)
     exact ⟨⟨k+1,by omega,by go_num,⟨_,_,_,_,HQ2.out,by rw [HR.out];exact HXS.out⟩⟩,by simp [intOf];omega⟩
    |some p=>
     rw [hpv] at HTC HGY;have HR:=aB (HGY.out p rfl);have HPC:=aB (fun W hb=>HPP.out k hlt (by rw [hpv];rfl) W hb fx.da);clear HGY HGN hpv HPP HLK;generalize ts[k]=x at*;generalize gPk fx.da=pk at*;unfold eT at e1
     go_wp2_with (first
      |(have _t:=HQ4;at_builtin;refine TG (B:=w.heap.size) (v:= .slice ra rn rc) (xs:=xs) (x:=⟨⟨p,pk,1⟩,.slice ua un uc,.slice a1 n1 c1,.slice a2 n2 c2,.slice a3 n3 c3⟩) (N:=V2.heap.size+1) rfl (.tmp 38) (.tmp 42) rfl rfl HQ4.out.row HQ4.out.below.size rfl HV4.out HN4.out (by omega) ?_;intro v1 w1 hr1 hg1;obtain ⟨hb5,hq5⟩:=HQ4.out.grown hr1 hg1;have HQ5:=aB hq5;have z1:w1.cell? ⟨N5,0,none⟩=some (.slice ra rn rc):=(by simp [World.cell?,hb5]);have z2:w1.frozen? ⟨N5,0,none⟩=false:=(by simp [World.frozen?,hb5]);obtain ⟨ya,yc,ye⟩:=hr1.form;obtain ⟨yn,hyn⟩:∃ n,n=(xs++[(⟨⟨p,pk,1⟩,.slice ua un uc,.slice a1 n1 c1,.slice a2 n2 c2,.slice a3 n3 c3⟩:Dv)]).length:=⟨_,rfl⟩;rw [←hyn] at ye;subst ye;clear hyn hr1 hg1 hq5 hb5 HQ4 HV4 HN4)
      |(have _t:=HQ2;go_at_call 141;refine (HPC.out _ HQ2.out.below).mono ?_;rintro e V2 ⟨a1,n1,c1,a2,n2,c2,a3,n3,c3,er,rfl,hop,ok⟩;have HQ3:=aB (HQ2.out.keep ok);have HQ4:Hid (GtQ w N5 (.slice ra rn rc) xs ((V2.alloc (pkO pk (.slice a1 n1 c1) (.slice a2 n2 c2) (.slice a3 n3 c3))).alloc (dvO ⟨⟨p,pk,1⟩,.slice ua un uc,.slice a1 n1 c1,.slice a2 n2 c2,.slice a3 n3 c3⟩))):=(HQ3.out.keep (aD _ _)).keep (aD _ _);have HV4:Hid (OwnV ((V2.alloc (pkO pk (.slice a1 n1 c1) (.slice a2 n2 c2) (.slice a3 n3 c3))).alloc (dvO ⟨⟨p,pk,1⟩,.slice ua un uc,.slice a1 n1 c1,.slice a2 n2 c2,.slice a3 n3 c3⟩)) w.heap.size ⟨⟨p,pk,1⟩,.slice ua un uc,.slice a1 n1 c1,.slice a2 n2 c2,.slice a3 n3 c3⟩):=(⟨dB ((HPA.out.below ok).below (aA (aD _ _) (aD _ _))) HQ1s.out,(hop.base HQ2.out.below.size).below (aA (aD _ _) (aD _ _))⟩);have HN4:Hid (∀ j u,(mL ⟨⟨p,pk,1⟩,.slice ua un uc,.slice a1 n1 c1,.slice a2 n2 c2,.slice a3 n3 c3⟩)[j]? =some u→((V2.alloc (pkO pk (.slice a1 n1 c1) (.slice a2 n2 c2) (.slice a3 n3 c3))).alloc (dvO ⟨⟨p,pk,1⟩,.slice ua un uc,.slice a1 n1 c1,.slice a2 n2 c2,.slice a3 n3 c3⟩)).cell? ((⟨V2.heap.size+1,0,none⟩:Addr).add j)=some u):=(by have e:=wR (V2.alloc (pkO pk (.slice a1 n1 c1) (.slice a2 n2 c2) (.slice a3 n3 c3))) #[.slice ua un uc,.string pk.nm,.int .i64 pk.a,.int .i64 pk.b,.int .i64 pk.c,.slice a1 n1 c1,.slice a2 n2 c2,.slice a3 n3 c3,.int .i64 1] 56;rw [World.size_alloc] at e;exact e);obtain ⟨b0,b1⟩:=HQ3.out.cell;obtain ⟨c0,d0⟩:=(HQ3.out.keep (aD V2 (pkO pk (.slice a1 n1 c1) (.slice a2 n2 c2) (.slice a3 n3 c3)))).cell;obtain ⟨e0,e9⟩:=HQ4.out.cell;clear HQ2 HQ3 HPA ok hop hlk)
      |(have _t:=HQ1;go_at_call 58;refine (HTC.out _).mono ?_;rintro e V1 ⟨ua,un,uc,rfl,hpa,ok⟩;have HQ2:=aB (HQ1.out.keep ok);have HPA:Hid (OwnPa V1 _ (.slice ua un uc) p):=hpa;have HQ1s:=aB HQ1.out.below.size;have x1:V1.cell? ⟨wr.heap.size,0,none⟩=some (.string x.pa):=(ok.cell (p:=⟨wr.heap.size,0,none⟩) (by simp)).trans HX1.out;have hlk:=HLC.out V1 HQ2.out.below;unfold eT at hlk;clear HQ1 ok hpa))
     exact ⟨⟨k+1,by omega,by go_num,⟨_,_,_,_,HQ5.out,by rw [HR.out,List.map_append,HXS.out];rfl⟩⟩,by simp [intOf];omega⟩
  · obtain rfl:k=ts.length:=by omega
    have hki:¬ (ts.length:Int)<(ts.length:Int):=by omega
    obtain ⟨b0,b1⟩:=hgq.cell;have r0:wr.cell? ⟨w.heap.size,0,none⟩=some (.slice none 0 0):=by simp [World.cell?,hgq.res]
    have r1:wr.frozen? ⟨w.heap.size,0,none⟩=false:=by simp [World.frozen?,hgq.res]
    have HR:Hid (RowV (wr.setCell ⟨w.heap.size,0,none⟩ (.slice ra rn rc)) w.heap.size (.slice ra rn rc) xs∧xs.map Dv.d=cD M ts∧Below w.heap.size w (wr.setCell ⟨w.heap.size,0,none⟩ (.slice ra rn rc))∧(wr.setCell ⟨w.heap.size,0,none⟩ (.slice ra rn rc)).cell? ⟨w.heap.size,0,none⟩=some (.slice ra rn rc)):=⟨hgq.row.far hgq.res (by decide) (by decide) (kM _ _ _ _),by rw [←HEN.out];exact hxs,hgq.below.grown (kM _ _ _ _) hgq.below.size (fun j e=>by cases e;exact Nat.le_refl _),by simp [World.setCell,World.cell?,Array.getElem?_modify,hgq.res]⟩;have s0:=HR.out.2.2.2;clear hgq hxs HQ0 HXS HTP HSZ HGD HF HLK HPP
    go_wp2_with fail
    refine bodyPost_ret (by simp [results,Tryz.results89,s0,go_sem];try rfl) rfl ?_;exact ⟨_,_,_,xs,rfl,HR.out.1,HR.out.2.1,HR.out.2.2.1⟩
theorem sU {t:ByteArray} (h:zY t=0):aT (zZ t)=true:=by
 unfold zY at h;unfold zZ
 split at h
 · split at h
   · split at h
     · assumption
     · cases h
   · contradiction
 · contradiction
theorem sV {t:ByteArray} (h:uG t=0):aL (zL t)=true:=by
 unfold uG at h;unfold zL
 split at h
 · split at h
   · split at h
     · assumption
     · cases h
   · contradiction
 · contradiction
theorem gF {L:List Dp} (h:bO L=true):L.length≤16:=by
 unfold bO at h;rw [Bool.and_eq_true,decide_eq_true_eq] at h;exact h.1
theorem KA {P:Pg} (h:aT P=true):PgZ P:=by
 unfold aT eR at h;simp only [Bool.and_eq_true] at h;have h1:=gF h.1.1.2.1;have h2:=gF h.1.1.2.2.1;have h3:=gF h.1.1.2.2.2;exact ⟨by omega,by omega,by omega⟩
theorem TY (t:ByteArray):PgZ (gPk t):=by
 unfold gPk
 split
 · rename_i h
   exact KA (sU h)
 · exact ⟨by decide,by decide,by decide⟩
noncomputable def gMn (t:ByteArray):Mn:=if uG t=0 then zL t else iJ
theorem TZ (t:ByteArray):(gMn t).d.length≤9223372036854775807∧(gMn t).v.length≤9223372036854775807∧(gMn t).o.length≤9223372036854775807∧(gMn t).p.length≤9223372036854775807:=by
 unfold gMn
 split
 · rename_i h
   have hw:=sV h;unfold aL eI at hw;simp only [Bool.and_eq_true] at hw;have h1:=gF hw.1.1.1;have h2:=gF hw.1.1.2.1;have h3:=gF hw.1.1.2.2.1;have h4:=gF hw.1.1.2.2.2;exact ⟨by omega,by omega,by omega,by omega⟩
 · exact ⟨by decide,by decide,by decide,by decide⟩
def gGr (t:ByteArray):List Nd:=(Lo.wD t).getD []
theorem OX (t:ByteArray):sP (gGr t):=by
 unfold gGr;cases h:Lo.wD t with
 |none=>exact ⟨by simp,fun n hn=>by cases hn⟩
 |some G=>
  have hm:=(Lo.ON h).1;show sP G;cases G with
  |nil=>cases hm
  |cons n r=>
   unfold Lo.dI at hm;simp only [Bool.and_eq_true,decide_eq_true_eq] at hm;refine ⟨by rw [List.length_cons];omega,fun m hmem=> ?_⟩
   have:=List.all_eq_true.1 hm.2 m hmem
   unfold Lo.cC at this;rw [Bool.and_eq_true,decide_eq_true_eq] at this;omega
def OwnGr (w:World) (B:Nat) (v:Value) (G:List Nd):Prop:=∃ all:List Lo.NV,all.map Lo.NV.nd=G∧Lo.RA w B v all
theorem OwnGr.at {w:World} {B:Nat} {v:Value} {G:List Nd} (h:OwnGr w B v G):NodesAt w v G:=by
 obtain ⟨all,rfl,hr⟩:=h;exact hr.at
theorem OwnGr.below {w w':World} {B:Nat} {v:Value} {G:List Nd} (h:OwnGr w B v G) (hb:Below w.heap.size w w'):OwnGr w' B v G:=by
 obtain ⟨all,e,hr⟩:=h;exact ⟨all,e,cP hr.1 hb,fun x hx=>⟨cP (hr.2 x hx).1 hb,cP (hr.2 x hx).2 hb⟩⟩
theorem OwnGr.base {w:World} {B C:Nat} {v:Value} {G:List Nd} (h:OwnGr w B v G) (hc:C≤B):OwnGr w C v G:=by
 obtain ⟨all,e,hr⟩:=h;exact ⟨all,e,dB hr.1 hc,fun x hx=>⟨dB (hr.2 x hx).1 hc,dB (hr.2 x hx).2 hc⟩⟩
theorem OwnGr.keptV {w w':World} {B B':Nat} {v v':Value} {G:List Nd} {n':Nat} {ys:List Value} (h:OwnGr w B v G) (hr:w.ownsRow B' 56 9 v' n' ys) (hg:w.grownBy w' v'.ownBlock):OwnGr w' B v G:=by
 obtain ⟨all,e,ha⟩:=h;exact ⟨all,e,World.ownsRow.kept ha.1 hg (eO ha.1 hr (by decide)),fun x hx=>⟨World.ownsRow.kept (ha.2 x hx).1 hg (eO (ha.2 x hx).1 hr (by decide)),World.ownsRow.kept (ha.2 x hx).2 hg (eO (ha.2 x hx).2 hr (by decide))⟩⟩
theorem OwnM.keptV {w w':World} {B B':Nat} {P:Mn} {v1 v2 v3 v4 v':Value} {n':Nat} {ys:List Value} (h:OwnM w B P v1 v2 v3 v4) (hr:w.ownsRow B' 56 9 v' n' ys) (hg:w.grownBy w' v'.ownBlock):OwnM w' B P v1 v2 v3 v4:=by
 obtain ⟨q1,q2,q3,q4,h1,h2,h3,h4⟩:=h;exact ⟨q1,q2,q3,q4,⟨h1.1.keptV hr hg,h1.2⟩,⟨h2.1.keptV hr hg,h2.2⟩,⟨h3.1.keptV hr hg,h3.2⟩,h4.1.keptV hr hg,h4.2⟩
def jK (L:List Dr) (m:List Int):List Dr:=L.mapIdx fun i d=>⟨d.pa,d.pk,(m[i]?).getD d.nd⟩
theorem iL (L:List Dr) (m:List Int):(jK L m).length=L.length:=by unfold jK;rw [List.length_mapIdx]
theorem mM {L:List Dr} {m:List Int} {i:Nat} (hi:i<L.length) (h:i<(jK L m).length):(jK L m)[i]=⟨L[i].pa,L[i].pk,(m[i]?).getD L[i].nd⟩:=by simp only [jK,List.getElem_mapIdx]
theorem OY (L:List Dr):jK L []=L:=by
 unfold jK;refine List.ext_getElem (by rw [List.length_mapIdx]) fun i h1 h2=> ?_
 rw [List.getElem_mapIdx];rfl
theorem KB {L:List Dr} {m:List Int} {k:Nat} (hk:k<m.length) (hl:k<L.length):jK L (m.take (k+1))=(jK L (m.take k)).set k ⟨L[k].pa,L[k].pk,m[k]⟩:=by
 refine List.ext_getElem (by rw [List.length_set,iL,iL]) fun i h1 h2=> ?_
 rw [iL] at h1;rw [List.getElem_set,mM h1,mM h1]
 split
 · rename_i e
   subst e;rw [List.getElem?_take_of_lt (by omega),List.getElem?_eq_getElem hk];rfl
 · rename_i e
   by_cases hi:i<k
   · rw [List.getElem?_take_of_lt (by omega),List.getElem?_take_of_lt hi]
   · rw [List.getElem?_take_eq_none (by omega),List.getElem?_take_eq_none (by omega)]
theorem RG (L:List Dr) (G:List Nd):eH L G=[]∨(eH L G).length=L.length:=by
 unfold eH
 split
 · rename_i hh
   cases hm:fH L G with
   |none=>exact Or.inl rfl
   |some m=>exact Or.inr (uM (dL.1 hh.1).1.1 hh.2 hm).1
 · exact Or.inl rfl
theorem RH {t:ByteArray} (h:t.size≤8796093022208):QD t.data.toList:=fun L r hn e=>by
 have h1:=jU hn;have h2:=congrArg List.length e;rw [List.length_append] at h2;have h3:t.data.toList.length=t.size:=by rw [Array.length_toList];rfl
 omega
theorem DO {t:ByteArray} {p:List ByteArray} (h:bY t.data.toList=some p) (hz:t.size≤8796093022208):p.length*16≤140737488355328:=by
 have he:=CF h
 by_cases h0:p=[]
 · rw [h0];decide
 · by_cases hn:aV p=true
   · have h1:=jU hn
     rw [eU h0 hn] at he;have h2:=cQ p;rw [he] at h2;omega
   · unfold aG at he
     rw [if_neg h0,if_neg hn] at he;rw [←he] at h;cases h
theorem AK {M ts:List Fi} (hs:∀ x ∈ ts,x.pa.size≤8796093022208):kR (cD M ts):=by
 have hone:∀ d ∈ cD M ts,d.pa.length*16≤140737488355328∧PgZ d.pk:=fun d hd=>by
  unfold cD at hd
  rcases List.mem_cons.1 hd with rfl|hd
  · exact ⟨by decide,by decide,by decide,by decide⟩
  · obtain ⟨x,hx,hd⟩:=List.mem_flatMap.1 hd
    unfold AH at hd
    split at hd
    · rename_i p hp
      rw [List.mem_singleton.1 hd];exact ⟨DO hp (hs x hx),TY _⟩
    · cases hd
 exact ⟨fun d hd=>(hone d hd).1,fun d hd=>(hone d hd).2⟩
theorem RI {L:List Dr} {m:List Int} (h:kR L):kR (jK L m):=by
 have hone:∀ d ∈ jK L m,d.pa.length*16≤140737488355328∧PgZ d.pk:=fun d hd=>by
  obtain ⟨i,hi,rfl⟩:=List.getElem_of_mem hd;have hi2:=hi;rw [iL] at hi2;rw [mM hi2];exact ⟨h.1 L[i] (List.getElem_mem hi2),h.2 L[i] (List.getElem_mem hi2)⟩
 exact ⟨fun d hd=>(hone d hd).1,fun d hd=>(hone d hd).2⟩
def RJ (x:Dv) (n:Int):Dv:=⟨⟨x.d.pa,x.d.pk,n⟩,x.u,x.v1,x.v2,x.v3⟩
theorem AL (n:Int):∀ (xs:List Dv) (i:Nat) (hi:i<xs.length),(xs.flatMap mL).set (i*9+8) (.int .i64 n)=(xs.set i (RJ xs[i] n)).flatMap mL
 |[],i,hi=>by cases hi
 |x::xs,0,_=>rfl
 |x::xs,i+1,hi=>by
  rw [List.flatMap_cons,List.set_append_right _ _ (by rw [AG];omega),List.set_cons_succ,List.flatMap_cons,AG,show (i+1)*9+8 - 9=i*9+8 by omega,AL n xs i (by simpa using hi)];rfl
theorem RowV.store {w:World} {B g c:Nat} {xs:List Dv} {k:Nat} (h:RowV w B (.slice (some ⟨g,0,none⟩) k c) xs) (hk:k=xs.length) {i:Nat} (hi:i<xs.length) (n:Int):
 RowV (w.setCell ⟨g,i*9+8,none⟩ (.int .i64 n)) B (.slice (some ⟨g,0,none⟩) k c) (xs.set i (RJ xs[i] n)):=by
 subst hk;obtain ⟨h1,h2⟩:=h.1.stored (i*9+8) (.int .i64 n);rw [AL n xs i hi] at h1;refine ⟨by rw [List.length_set];exact h1,fun x hx=> ?_⟩;have hold:∀ y ∈ xs,OwnV (w.setCell ⟨g,i*9+8,none⟩ (.int .i64 n)) B y:=fun y hy=>(h.2 y hy).kept h.1 h2
 rcases List.mem_or_eq_of_mem_set hx with hx|rfl
 · exact hold x hx
 · have:=hold _ (List.getElem_mem hi)
   exact ⟨this.1,this.2⟩
end Go.Proofs.YtlmpiohbmlddiaaGreatDoor
