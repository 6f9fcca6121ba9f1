/- Ip2, Im4, Mf1, Mf2, ScPl2: their declarations that are needed, laid in one text, remarks and blanks left out. -/
import Derived.Test.YtmnhnofnlcbliaaGreatDoorDkShelf
import Derived.Lib.AtoiAllCases
import Derived.Lib.ItoaMem
import Derived.Test.YtmnhnofnlcbliaaGreatDoorMg15
namespace Go.Proofs.YtmnhnofnlcbliaaGreatDoor
open Go.RowKit Go.Lib Go.Sort
set_option maxRecDepth 100000
theorem GT (C:List Fi) (hc:∀ x ∈ C,∀ y ∈ C,x.pa=y.pa→x=y):∀ k,k≤C.length→∀ y,y ∈ (C.take k).foldl aR []↔y ∈ C.take k:=by
 intro k
 induction k with
 |zero=>intro _ y;simp
 |succ k ih=>
  intro hk y;have hlt:k<C.length:=by omega
  rw [List.take_succ_eq_append_getElem hlt,List.foldl_append];simp only [List.foldl_cons,List.foldl_nil];rw [pH,List.mem_append,List.mem_singleton,ih (by omega)]
  constructor
  · rintro (h|⟨h,_⟩)
    · exact Or.inr h
    · exact Or.inl h
  · rintro (h|h)
    · by_cases e:y.pa=C[k].pa
      · exact Or.inl (hc y (List.mem_of_mem_take h) _ (List.getElem_mem hlt) e)
      · exact Or.inr ⟨h,e⟩
    · exact Or.inl h
theorem XV (C:List Fi):∀ k,k≤C.length→((C.take k).foldl aR []).length≤k:=by
 intro k
 induction k with
 |zero=>intro _;simp
 |succ k ih=>
  intro hk;have hlt:k<C.length:=by omega
  rw [List.take_succ_eq_append_getElem hlt,List.foldl_append];simp only [List.foldl_cons,List.foldl_nil]
  have:=VA ((C.take k).foldl aR []) C[k]
  have:=ih (by omega)
  omega
def RisF (ts:List Fi):Prop:=ts.Pairwise fun x y=>eF x.pa y.pa<0
theorem RisF.of {ts:List Fi} (hs:oL ts) (hd:ts.Pairwise fun x y=>x.pa≠y.pa):RisF ts:=by
 refine (hs.and hd).imp fun {x y} h=> ?_
 rcases tL.tri x.pa y.pa with q|q|q
 · exact q
 · exact absurd q h.2
 · exact absurd q h.1
theorem RisF.nodup {ts:List Fi} (h:RisF ts):ts.Nodup:=by
 refine h.imp fun {x y} q e=> ?_
 subst e;rw [tL.irr] at q;omega
theorem RisF.uniq {ts us:List Fi} (h1:RisF ts) (h2:RisF us) (h:∀ x,x ∈ ts↔x ∈ us):ts=us:=by
 refine List.Perm.eq_of_pairwise (le:=fun x y:Fi=>eF x.pa y.pa<0) (fun a b _ _ q1 q2=> ?_) h1 h2 ((List.perm_ext_iff_of_nodup h1.nodup h2.nodup).2 h)
 have:=(tL.anti _ _).1 q1
 omega
def oP:List Fi→Fi→Nat
 |[],_=>0
 |y::ts,x=>if Op.bytesLess y.pa.toList x.pa.toList=true then oP ts x+1 else 0
theorem wE:∀ {ts:List Fi} {x:Fi} {k:Nat} (h:k<ts.length),k<oP ts x→Op.bytesLess ts[k].pa.toList x.pa.toList=true
 |[],_,_,h,_=>by simp at h
 |y::ts,x,k,h,hk=>by
  unfold oP at hk
  split at hk
  · rename_i hy
    cases k with
    |zero=>exact hy
    |succ k=>exact wE (ts:=ts) (k:=k) (by simpa using h) (by omega)
  · omega
theorem PV:∀ {ts:List Fi} {x:Fi} {k:Nat} (h:k<ts.length),k=oP ts x→Op.bytesLess ts[k].pa.toList x.pa.toList=false
 |[],_,_,h,_=>by simp at h
 |y::ts,x,k,h,hk=>by
  unfold oP at hk
  split at hk
  · cases k with
    |zero=>omega
    |succ k=>exact PV (ts:=ts) (k:=k) (by simpa using h) (by omega)
  · rename_i hy
    subst hk;exact Bool.not_eq_true _ ▸ hy
def yJ (ts:List Fi) (x:Fi):List Fi:=ts.take (oP ts x)++x::ts.drop (oP ts x)
theorem AD (ts:List Fi) (x:Fi):(yJ ts x).Perm (x::ts):=by
 unfold yJ;refine List.perm_middle.trans ?_;rw [List.take_append_drop]
theorem XW (ts:List Fi) (x:Fi):(yJ ts x).length=ts.length+1:=by rw [(AD ts x).length_eq,List.length_cons]
theorem XX {ts:List Fi} {x y:Fi}:y ∈ yJ ts x↔y=x∨y ∈ ts:=by rw [(AD ts x).mem_iff,List.mem_cons]
theorem XY (s t:ByteArray):Op.bytesLess s.toList t.toList=true↔eF s t<0:=by
 rw [Dl,ByteArray.toList_eq,ByteArray.toList_eq,Bb]
 constructor
 · intro h
   rw [if_pos h];decide
 · intro h
   cases hb:bytesBefore s.data.toList t.data.toList with
   |true=>rfl
   |false=>
    rw [hb] at h;simp only [Bool.false_eq_true,if_false] at h
    split at h<;>omega
theorem TM {ts:List Fi} {x:Fi} (h:RisF ts) (hx:∀ y ∈ ts,y.pa≠x.pa):RisF (yJ ts x):=by
 have h1:∀ y ∈ ts.take (oP ts x),eF y.pa x.pa<0:=fun y hy=>by
  obtain ⟨k,hk,rfl⟩:=List.getElem_of_mem hy;rw [List.length_take] at hk;rw [List.getElem_take];exact (XY _ _).1 (wE (by omega) (by omega))
 have h2:∀ y ∈ ts.drop (oP ts x),eF x.pa y.pa<0:=fun y hy=>by
  obtain ⟨k,hk,rfl⟩:=List.getElem_of_mem hy;rw [List.length_drop] at hk;have hp:oP ts x<ts.length:=by omega
  have hge:¬ eF ts[oP ts x].pa x.pa<0:=fun q=>by
   have:=(XY _ _).2 q
   rw [PV hp rfl] at this;cases this
  have h0:eF x.pa ts[oP ts x].pa<0:=by
   rcases tL.tri ts[oP ts x].pa x.pa with q|q|q
   · exact absurd q hge
   · exact absurd q (hx _ (List.getElem_mem hp))
   · exact q
  rw [List.getElem_drop]
  rcases Nat.eq_zero_or_pos k with rfl|hk0
  · exact h0
  · have hlt:eF ts[oP ts x].pa ts[oP ts x+k].pa<0:=List.pairwise_iff_getElem.1 h _ _ hp (by omega) (by omega)
    exact tL.trans _ _ _ h0 hlt
 unfold yJ RisF;rw [List.pairwise_append,List.pairwise_cons];refine ⟨List.Pairwise.take h,⟨h2,List.Pairwise.drop h⟩,fun y hy z hz=> ?_⟩
 rcases List.mem_cons.1 hz with rfl|hz
 · exact h1 y hy
 · exact tL.trans _ _ _ (h1 y hy) (h2 z hz)
theorem Ga (C:List Fi) (hd:C.Pairwise fun x y=>x.pa≠y.pa):∀ k,k≤C.length→RisF ((C.take k).foldl yJ [])∧(∀ y,y ∈ (C.take k).foldl yJ []↔y ∈ C.take k)∧((C.take k).foldl yJ []).length=k:=by
 intro k
 induction k with
 |zero=>intro _;exact ⟨List.Pairwise.nil,fun y=>by simp,rfl⟩
 |succ k ih=>
  intro hk;have hlt:k<C.length:=by omega
  obtain ⟨i1,i2,i3⟩:=ih (by omega);rw [List.take_succ_eq_append_getElem hlt,List.foldl_append];simp only [List.foldl_cons,List.foldl_nil];refine ⟨TM i1 fun y hy=> ?_,fun y=> ?_,by rw [XW,i3]⟩
  · obtain ⟨j,hj,rfl⟩:=List.getElem_of_mem ((i2 y).1 hy)
    rw [List.length_take] at hj;rw [List.getElem_take];exact List.pairwise_iff_getElem.1 hd j k (by omega) hlt (by omega)
  · rw [XX,List.mem_append,List.mem_singleton,i2]
    exact ⟨fun h=>h.symm,fun h=>h.symm⟩
noncomputable def nT (L:List Dr) (d:Dr):List Ca:=[.dir d.pa,.pkg d]++if GR L d.pa=true then [.mod d.pa] else []
def XZ:Ca→List ByteArray
 | .mod p=>p
 | .dir p=>p
 | .pkg d=>d.pa
 |_=>[]
theorem CN {L:List Dr} {d:Dr} {a:Ca} (h:a ∈ nT L d):XZ a=d.pa∧a≠ .man∧a≠ .lok∧a≠ .pru:=by
 unfold nT at h
 rcases List.mem_append.1 h with h|h
 · simp only [List.mem_cons,List.not_mem_nil,or_false] at h
   rcases h with rfl|rfl<;>exact ⟨rfl,by simp,by simp,by simp⟩
 · split at h
   · rw [List.mem_singleton.1 h]
     exact ⟨rfl,by simp,by simp,by simp⟩
   · cases h
theorem MK (L:List Dr) (d:Dr):(nT L d).Nodup:=by
 unfold nT
 split<;>simp
theorem wF (L:List Dr):∀ {M:List Dr},(M.Pairwise fun d e=>d.pa≠e.pa)→(M.flatMap (nT L)).Nodup
 |[],_=>by simp
 |d::M,h=>by
  obtain ⟨h1,h2⟩:=List.pairwise_cons.1 h;rw [List.flatMap_cons,List.nodup_append];refine ⟨MK L d,wF L h2,fun a ha b hb e=> ?_⟩;subst e;obtain ⟨d2,hd2,hb2⟩:=List.mem_flatMap.1 hb;exact h1 d2 hd2 ((CN ha).1.symm.trans (CN hb2).1)
theorem wG (pr:Bool) (L:List Dr):caD pr L=gN pr++(if 1<L.length then [.mod []] else [])++(L.drop 1).flatMap (nT L):=rfl
theorem qJ {pr:Bool} {a:Ca} (h:a ∈ gN pr):a= .man∨a= .lok∨a= .pru:=by
 unfold gN at h;cases pr<;>simp at h
 · rcases h with h|h
   · exact Or.inl h
   · exact Or.inr (Or.inl h)
 · exact h
theorem TN {L:List Dr} (h:TrOk L) (pr:Bool):(caD pr L).Nodup:=by
 have hdr:(L.drop 1).Pairwise fun d e=>d.pa≠e.pa:=by
  rw [List.pairwise_iff_getElem];intro i j hi hj hij e;rw [List.length_drop] at hi hj;rw [List.getElem_drop,List.getElem_drop] at e
  have:=h.uniq _ _ (by omega) (by omega) e
  omega
 rw [wG,List.nodup_append,List.nodup_append];refine ⟨⟨?_,?_,?_⟩,wF L hdr,?_⟩
 · unfold gN
   cases pr<;>simp
 · split<;>simp
 · intro a ha b hb e
   subst e
   split at hb
   · rw [List.mem_singleton.1 hb] at ha
     rcases qJ ha with q|q|q<;>cases q
   · cases hb
 · intro a ha b hb e
   subst e;obtain ⟨d,hd,hb⟩:=List.mem_flatMap.1 hb;obtain ⟨q1,q2,q3,q4⟩:=CN hb
   rcases List.mem_append.1 ha with ha|ha
   · rcases qJ ha with q|q|q
     · exact q2 q
     · exact q3 q
     · exact q4 q
   · split at ha
     · rw [List.mem_singleton.1 ha] at q1
       obtain ⟨i,hi,hne,rfl⟩:=dO.1 hd;exact (h.names i hi hne).1 q1.symm
     · cases ha
theorem TO {L:List Dr} (h:TrOk L) (pr:Bool) (mt lt:ByteArray):((caD pr L).map (caF mt lt)).Pairwise fun x y=>x.pa≠y.pa:=by
 rw [List.pairwise_map,List.pairwise_iff_getElem];intro i j hi hj hij e;have q:=MJ h.mem_uniq (rX h (List.getElem_mem hi)) (rX h (List.getElem_mem hj)) e;exact List.pairwise_iff_getElem.1 (TN h pr) i j hi hj hij q
theorem YA {L:List Dr} (h:TrOk L) (pr:Bool) (mt lt:ByteArray):∀ x ∈ (caP pr L).map (caF mt lt),∀ y ∈ (caP pr L).map (caF mt lt),x.pa=y.pa→x=y:=by
 intro x hx y hy e;obtain ⟨a,ha,rfl⟩:=List.mem_map.1 hx;obtain ⟨b,hb,rfl⟩:=List.mem_map.1 hy;rw [MJ h.mem_uniq (XU h ha) (XU h hb) e]
noncomputable def aQ (mt lt:ByteArray) (pr:Bool) (L:List Dr):List Fi:=((caD pr L).map (caF mt lt)).foldl yJ []
theorem cM {L:List Dr} (h:TrOk L) (pr:Bool) (mt lt:ByteArray):RisF (aQ mt lt pr L)∧(∀ y,y ∈ aQ mt lt pr L↔∃ a ∈ caD pr L,caF mt lt a=y)∧(aQ mt lt pr L).length=(caD pr L).length:=by
 obtain ⟨h1,h2,h3⟩:=Ga _ (TO h pr mt lt) _ (Nat.le_refl _);rw [List.take_length] at h1 h2 h3;exact ⟨h1,fun y=>by unfold aQ;rw [h2,List.mem_map],by unfold aQ;rw [h3,List.length_map]⟩
theorem ML {L:List Dr} (h:TrOk L) (pr:Bool) (mt lt:ByteArray) {ts:List Fi} (hp:ts.Perm (((caP pr L).map (caF mt lt)).foldl aR [])) (hs:oL ts) (hd:ts.Pairwise fun x y=>x.pa≠y.pa):ts=aQ mt lt pr L:=by
 obtain ⟨h1,h2,_⟩:=cM h pr mt lt;refine (RisF.of hs hd).uniq h1 fun x=> ?_
 have h3:=GT _ (YA h pr mt lt) _ (Nat.le_refl _) x;rw [List.take_length] at h3;rw [hp.mem_iff,h3,h2,List.mem_map]
 constructor
 · rintro ⟨a,ha,e⟩
   exact ⟨a,(qI h).1 ha,e⟩
 · rintro ⟨a,ha,e⟩
   exact ⟨a,(qI h).2 ha,e⟩
end Go.Proofs.YtmnhnofnlcbliaaGreatDoor
namespace Go.Proofs.YtmnhnofnlcbliaaGreatDoor
open Go.RowKit Go.Maps Go.WideMaps
set_option maxRecDepth 100000
theorem PW (a b:ByteArray) (i:Nat) (hi:i<b.size):(a++b).data[a.size+i]! =b.data[i]! :=by
 have h1:(a++b).data=a.data++b.data:=by
  refine Array.toList_inj.1 ?_;rw [cG,Array.toList_append]
 rw [h1];have hz:a.data.size=a.size:=rfl;have h8:b.data.size=b.size:=rfl;rw [getElem!_pos _ _ (by rw [Array.size_append];omega),getElem!_pos _ _ (by omega),Array.getElem_append_right (by omega)]
 congr 1
 omega
theorem TP {a s:ByteArray} (hs:Sc.aK s.data.toList=true):Lib.lastIndexByte (a++fU++s) 47=(a.size+8:Nat):=by
 have h9:fU.size=9:=rfl;have hz:(a++fU++s).size=a.size+9+s.size:=by rw [bP,bP,h9]
 have hb8:((a++fU++s).data[a.size+8]!).toNat=47:=by
  have e1:(a++fU++s)=a++(fU++s):=by
   refine bC ?_;rw [ByteArray.toList_eq,ByteArray.toList_eq,cG,cG,cG,cG,List.append_assoc]
  rw [e1,PW a (fU++s) 8 (by rw [bP];omega)]
  have h1:(fU++s).data=fU.data++s.data:=by
   refine Array.toList_inj.1 ?_;rw [cG,Array.toList_append]
  have hm:fU.data.size=9:=rfl;rw [h1,getElem!_pos _ _ (by rw [Array.size_append];omega),Array.getElem_append_left (by omega)];rfl
 unfold Lib.lastIndexByte
 rcases Lib.lastIdx_spec (a++fU++s) 47 (a++fU++s).size with ⟨_,h⟩|⟨i,hi,h,h1,h2⟩
 · exfalso
   exact h (a.size+8) (by omega) (by rw [hb8];rfl)
 · rw [h]
   by_cases hlt:i<a.size+8
   · exfalso
     exact h2 (a.size+8) hlt (by omega) (by rw [hb8];rfl)
   · by_cases heq:i=a.size+8
     · rw [heq]
     · exfalso
       obtain ⟨j,rfl⟩:∃ j,i=(a++fU).size+j:=⟨i - (a++fU).size,by rw [bP];omega⟩;rw [bP,h9] at hi;have hj:j<s.size:=by omega
       rw [PW _ s j hj] at h1;have hsz:s.data.size=s.size:=rfl;rw [getElem!_pos _ _ (by omega)] at h1;have hm:s.data[j] ∈ s.data.toList:=by rw [←Array.getElem_toList];exact List.getElem_mem _
       have h47:s.data[j]=47:=UInt8.toNat_inj.1 (by have:(47:UInt8).toNat=47:=rfl;omega);rw [h47] at hm;exact vW hs hm
theorem Bo (q:List ByteArray) (s:ByteArray):upP (q++[s])=q:=by
 unfold upP;rw [List.length_append]
 simp
theorem gX {p:List ByteArray} (h0:p≠[]) (h:aT p=true):aH p=aO p:=by
 unfold aH;rw [if_neg h0,if_pos h];rfl
theorem Bp {p:List ByteArray} (h0:p≠[]) (h:aT p=true):0≤Lib.lastIndexByte (aH p) 47∧(Lib.lastIndexByte (aH p) 47).toNat≤(aH p).size∧(aH p).extract 0 (Lib.lastIndexByte (aH p) 47).toNat=aO (upP p)++kE:=by
 obtain ⟨q,s,rfl⟩:∃ q s,p=q++[s]:=⟨p.dropLast,p.getLast h0,(List.dropLast_concat_getLast h0).symm⟩;rw [gX h0 h,GC,Bo]
 have hs:Sc.aK s.data.toList=true:=by
  unfold aT at h;rw [List.all_append,Bool.and_eq_true] at h
  simpa using h.2
 have hl:=TP (a:=aO q) hs;rw [hl];have h9:fU.size=9:=rfl;have h8:kE.size=8:=rfl;refine ⟨by omega,?_,?_⟩
 · rw [bP,bP,h9]
   omega
 · have e:((aO q).size+8:Nat)=(aO q++kE).size:=by rw [bP,h8]
   rw [Int.toNat_natCast,e]
   have e2:aO q++fU++s=(aO q++kE)++((⟨#[47]⟩:ByteArray)++s):=by
    refine bC ?_;rw [ByteArray.toList_eq,ByteArray.toList_eq,cG,cG,cG,cG,cG];simp [fU,kE]
   rw [e2];refine bC ?_;rw [ByteArray.toList_eq,ByteArray.toList_eq,Sc.gP,Sc.cQ,List.drop_zero,cG,←aI,List.take_left]
set_option maxHeartbeats 1600000 in
theorem wH {p:List ByteArray} (h0:p≠[]) (h:aT p=true) (hz:(aZ p).length≤1024) (w:World):
 Calls Tryz.prog 77 #[.string (aH p)] w fun e w'=>e= .returned (.string (aO (upP p)++kE))∧Below w.heap.size w w':=by
 obtain ⟨m1,m2,m3⟩:=Bp h0 h;have hsz:(aH p).size≤1024:=by rw [gX h0 h,dQ];exact hz
 have HLI:Hid (∀ W,Calls Tryz.prog 129 #[.string (aH p),.int .u8 47] W fun e w'=>e= .returned (.int .i64 (Lib.lastIndexByte (aH p) 47))∧w'=W):=fun W=>Tryz.strings_LastIndexByte (aH p) 47 (by omega) W
 rw [←m3];clear m3;obtain ⟨k,hk⟩:∃ k:Nat,Lib.lastIndexByte (aH p) 47=k:=⟨(Lib.lastIndexByte (aH p) 47).toNat,by omega⟩;rw [hk] at HLI m2 ⊢;rw [Int.toNat_natCast] at m2 ⊢;clear hk m1 hz h h0;generalize aH p=tx at*
 go_enter Tryz.func77,Tryz.ntmps77
 go_wp2_with (go_at_call 129;refine (HLI.out _).mono ?_;rintro e w1 ⟨rfl,hw1⟩;subst w1)
 go_ret;exact ⟨rfl,Below.refl _ _⟩
set_option maxHeartbeats 1600000 in
theorem YB (x:Fi) (hx:x.pa.size≤maxLen) {w:World} {Bf b n:Nat} {D:DataW Value} (hc:w.cell? ⟨Bf,0,none⟩=some (.map (some b))) (hBf:Bf<w.heap.size) (hown:w.ownsMap Tryz.prog 9 gO b n D) (hn:n<maxLen):
 Calls Tryz.prog 73 #[.agg #[.string x.pa,.bool x.dr,.string x.da],.pointer (some ⟨Bf,0,none⟩)] w fun e w'=>e= .returned (.tuple #[])∧w'.ownsMap Tryz.prog 9 gO b (n+1) (D.put (fS x.pa) (.held (iZ x)))∧w.grownBy w' (some b):=by
 obtain ⟨W,hW⟩:∃ W,W=w.alloc (.cells #[.string x.pa,.bool x.dr,.string x.da] 45):=⟨_,rfl⟩;have hb:Below w.heap.size w W:=by rw [hW];exact (Below.refl _ _).alloc (Nat.le_refl _) _
 have c1:W.cell? ⟨Bf,0,none⟩=some (.map (some b)):=(hb.cell (p:=⟨Bf,0,none⟩) hBf).trans hc;have e0:W.cell? ⟨w.heap.size,0,none⟩=some (.string x.pa):=by rw [hW];simp
 have e1:W.cell? ⟨w.heap.size,1,none⟩=some (.bool x.dr):=by rw [hW];simp
 have e2:W.cell? ⟨w.heap.size,2,none⟩=some (.string x.da):=by rw [hW];simp
 obtain ⟨w2,hup,ho2,hg2⟩:=World.ownsMap.update (t:=74) (e:=45) (bS hown hb) mE Tryz.underlying74 hn (key:= .string x.pa) (val:=iZ x) (rB hx) rfl;unfold iZ at hup;have HO:=aB ho2
 have HG:Hid (w.grownBy w2 (some b)):=by
  refine ⟨hg2.os.trans hb.os,hg2.tape.trans hb.tape,hg2.output.trans hb.output,Nat.le_trans hb.size hg2.size,fun k hk hn=>(hg2.block k (Nat.lt_of_lt_of_le hk hb.size) hn).trans (hb.block k hk)⟩
 clear ho2 hg2 hown hc hn hx;subst hW;clear e0 e1 e2 hb hBf
 go_enter Tryz.func73,Tryz.ntmps73
 go_wp2
 go_end0
 exact ⟨rfl,HO.out,HG.out⟩
end Go.Proofs.YtmnhnofnlcbliaaGreatDoor
namespace Go.Proofs.YtmnhnofnlcbliaaGreatDoor
open Go.RowKit
set_option maxRecDepth 100000
structure Mn where
 d:List Dp
 v:List Dp
 o:List Dp
 p:List Dp
def MnAt (w:World) (P:Mn) (v1 v2 v3 v4:Value):Prop:=DepsAt w v1 P.d∧DepsAt w v2 P.v∧DepsAt w v3 P.o∧DepsAt w v4 P.p
theorem MnAt.below {w w':World} {P:Mn} {v1 v2 v3 v4:Value} (h:MnAt w P v1 v2 v3 v4) (hb:Below w.heap.size w w'):MnAt w' P v1 v2 v3 v4:=⟨h.1.below hb,h.2.1.below hb,h.2.2.1.below hb,h.2.2.2.below hb⟩
def BxM (w:World) (N:Nat) (v1 v2 v3 v4:Value):Prop:=w.cell? ⟨N,0,none⟩=some v1∧w.cell? ⟨N,1,none⟩=some v2∧w.cell? ⟨N,2,none⟩=some v3∧w.cell? ⟨N,3,none⟩=some v4∧N<w.heap.size
theorem jU (N:Nat) (v1 v2 v3 v4:Value):KeepP fun w1=>BxM w1 N v1 v2 v3 v4:=fun w w' h hb=>by
 obtain ⟨h0,h1,h2,h3,h4⟩:=h;have q:∀ i,w'.cell? ⟨N,i,none⟩=w.cell? ⟨N,i,none⟩:=fun i=>hb.cell (p:=⟨N,i,none⟩) h4
 exact ⟨by rw [q];exact h0,by rw [q];exact h1,by rw [q];exact h2,by rw [q];exact h3,Nat.lt_of_lt_of_le h4 hb.size⟩
theorem BxM.new {w:World} {N:Nat} (hN:w.heap.size=N) (v1 v2 v3 v4:Value):BxM (w.alloc (.cells #[v1,v2,v3,v4] 24)) N v1 v2 v3 v4:=by
 subst hN;refine ⟨?_,?_,?_,?_,?_⟩<;>simp
def bM (v1 v2 v3 v4:Value):Obj:= .cells #[.string ⟨#[110,101,101,100,115]⟩,v1,.string ⟨#[100,101,118]⟩,v2,.string ⟨#[108,105,107,101,115]⟩,v3,.string ⟨#[112,105,110,115]⟩,v4] 180 (0,0)
theorem kT (a1 a2 a3 a4:Option Addr) (l1 l2 l3 l4 c1 c2 c3 c4:Nat) (w:World):
 Calls Tryz.prog 120 #[.agg #[.slice a1 l1 c1,.slice a2 l2 c2,.slice a3 l3 c3,.slice a4 l4 c4]] w fun e w'=>∃ g,e= .returned (.slice (some ⟨g,0,none⟩) 4 4)∧Below w.heap.size w w'∧w.heap.size≤g∧w'.heap[g]? =some (bM (.slice a1 l1 c1) (.slice a2 l2 c2) (.slice a3 l3 c3) (.slice a4 l4 c4)):=by
 go_enter Tryz.func120,Tryz.ntmps120
 go_wp2
 go_ret;refine ⟨w.heap.size+1,by first|rfl|simp,aS _ _ _,by omega,?_⟩;show ((w.heap.push _).push _)[w.heap.size+1]? =_;rw [Array.getElem?_push,if_pos (by simp)];rfl
noncomputable def gI (P:Mn):Bool:=(bV P.d&&(bV P.v&&(bV P.o&&bV P.p)))&&jD [P.d,P.v,P.o]
theorem Bq {w:World} {A B C:List Dp} {v1 v2 v3:Value} (h1:DepsAt w v1 A) (h2:DepsAt w v2 B) (h3:DepsAt w v3 C):BZ (w.alloc (.cells #[v1,v2,v3] 22)) w.heap.size 0 [A,B,C]:=by
 refine ⟨by simp,fun k hk=> ?_⟩
 match k,hk with
 |0,_=>exact ⟨v1,by simp,h1.below (aC _ _)⟩
 |1,_=>exact ⟨v2,by simp,h2.below (aC _ _)⟩
 |2,_=>exact ⟨v3,by simp,h3.below (aC _ _)⟩
theorem Et {w:World} {A B C:List Dp} {v1 v2 v3:Value} (h1:DepsAt w v1 A) (h2:DepsAt w v2 B) (h3:DepsAt w v3 C) (k1:mN A) (k2:mN B) (k3:mN C):Calls Tryz.prog 198 #[.slice (some ⟨w.heap.size,0,none⟩) 3 3] (w.alloc (.cells #[v1,v2,v3] 22)) fun e w'=>e= .returned (.bool (jD [A,B,C]))∧Below (w.alloc (.cells #[v1,v2,v3] 22)).heap.size (w.alloc (.cells #[v1,v2,v3] 22)) w':=
 FG (Ls:=[A,B,C]) (Bq h1 h2 h3) (fun L hL=>by
  simp only [List.mem_cons,List.not_mem_nil,or_false] at hL
  rcases hL with rfl|rfl|rfl<;>assumption) (by simp)
set_option maxHeartbeats 6400000 in
theorem GU {P:Mn} {v1 v2 v3 v4:Value} {w:World} (h:MnAt w P v1 v2 v3 v4):
 Calls Tryz.prog 156 #[.agg #[v1,v2,v3,v4]] w fun e w'=>e= .returned (.bool (gI P))∧Below w.heap.size w w':=by
 have HM1:Hid (∀ w1,Below w.heap.size w w1→Calls Tryz.prog 197 #[v1] w1 fun e w'=>e= .returned (.bool (bV P.d))∧Below w1.heap.size w1 w'):=fun w1 hb=>eL (h.1.below hb)
 have HM2:Hid (∀ w1,Below w.heap.size w w1→Calls Tryz.prog 197 #[v2] w1 fun e w'=>e= .returned (.bool (bV P.v))∧Below w1.heap.size w1 w'):=fun w1 hb=>eL (h.2.1.below hb)
 have HM3:Hid (∀ w1,Below w.heap.size w w1→Calls Tryz.prog 197 #[v3] w1 fun e w'=>e= .returned (.bool (bV P.o))∧Below w1.heap.size w1 w'):=fun w1 hb=>eL (h.2.2.1.below hb)
 have HM4:Hid (∀ w1,Below w.heap.size w w1→Calls Tryz.prog 197 #[v4] w1 fun e w'=>e= .returned (.bool (bV P.p))∧Below w1.heap.size w1 w'):=fun w1 hb=>eL (h.2.2.2.below hb)
 have HEO:Hid (bV P.d=true→bV P.v=true→bV P.o=true→∀ w1,Below w.heap.size w w1→Calls Tryz.prog 198 #[.slice (some ⟨w1.heap.size,0,none⟩) 3 3] (w1.alloc (.cells #[v1,v2,v3] 22)) fun e w'=>e= .returned (.bool (jD [P.d,P.v,P.o]))∧Below (w1.alloc (.cells #[v1,v2,v3] 22)).heap.size (w1.alloc (.cells #[v1,v2,v3] 22)) w'):=fun g1 g2 g3 w1 hb=>Et (h.1.below hb) (h.2.1.below hb) (h.2.2.1.below hb) (eE g1) (eE g2) (eE g3)
 have HSB:Hid (gI P=((bV P.d&&(bV P.v&&(bV P.o&&bV P.p)))&&jD [P.d,P.v,P.o])):=rfl;obtain ⟨a1,c1,rfl⟩:=h.1.sl;obtain ⟨a2,c2,rfl⟩:=h.2.1.sl;obtain ⟨a3,c3,rfl⟩:=h.2.2.1.sl;obtain ⟨a4,c4,rfl⟩:=h.2.2.2.sl;have HLI:Hid (∀ w1,Calls Tryz.prog 120 #[.agg #[.slice a1 P.d.length c1,.slice a2 P.v.length c2,.slice a3 P.o.length c3,.slice a4 P.p.length c4]] w1 fun e w'=>∃ g,e= .returned (.slice (some ⟨g,0,none⟩) 4 4)∧Below w1.heap.size w1 w'∧w1.heap.size≤g∧w'.heap[g]? =some (bM (.slice a1 P.d.length c1) (.slice a2 P.v.length c2) (.slice a3 P.o.length c3) (.slice a4 P.p.length c4))):=fun w1=>kT _ _ _ _ _ _ _ _ _ _ _ _ w1
 clear h;generalize gI P=SB at*;generalize jD [P.d,P.v,P.o]=ob at*;generalize bV P.d=m1 at*;generalize bV P.v=m2 at*;generalize bV P.o=m3 at*;generalize bV P.p=m4 at*;generalize P.d.length=l1 at*;generalize P.v.length=l2 at*;generalize P.o.length=l3 at*;generalize P.p.length=l4 at*;have HKB:Hid (KeepP fun w1=>BxM w1 w.heap.size (.slice a1 l1 c1) (.slice a2 l2 c2) (.slice a3 l3 c3) (.slice a4 l4 c4)):=jU _ _ _ _ _
 go_enter Tryz.func156,Tryz.ntmps156
 go_wp2_with (go_at_call 120;refine (HLI.out _).mono ?_;rintro e w3 ⟨g,rfl,ok,hg,hgl⟩;have HO3:Hid ((Below w.heap.size w w3∧BxM w3 w.heap.size (.slice a1 l1 c1) (.slice a2 l2 c2) (.slice a3 l3 c3) (.slice a4 l4 c4))∧w3.heap[g]? =some (bM (.slice a1 l1 c1) (.slice a2 l2 c2) (.slice a3 l3 c3) (.slice a4 l4 c4))):=⟨⟨aA (aC _ _) ok,HKB.out _ _ (BxM.new rfl _ _ _ _) ok⟩,hgl⟩;clear ok hg hgl)
 go_loopw [8] (fun i wr=>∃ k:Nat,k≤4∧i= .int .i64 k∧((Below w.heap.size w wr∧BxM wr w.heap.size (.slice a1 l1 c1) (.slice a2 l2 c2) (.slice a3 l3 c3) (.slice a4 l4 c4))∧wr.heap[g]? =some (bM (.slice a1 l1 c1) (.slice a2 l2 c2) (.slice a3 l3 c3) (.slice a4 l4 c4)))∧(1≤k→m1=true)∧(2≤k→m2=true)∧(3≤k→m3=true)∧(4≤k→m4=true)) (fun i _=>4 - (intOf i).toNat)
 case atStart=>exact ⟨0,Nat.zero_le _,rfl,HO3.out,(fun h=>by omega),(fun h=>by omega),(fun h=>by omega),(fun h=>by omega)⟩
 case round=>
  obtain ⟨k,hk,rfl,hb,e1,e2,e3,e4⟩:=hrel;have HB:=aB hb
  rcases (show k=0∨k=1∨k=2∨k=3∨k=4 by omega) with rfl|rfl|rfl|rfl|rfl
  · have q0:wr.cell? ⟨g,0,none⟩=some (.string ⟨#[110,101,101,100,115]⟩):=by rw [Lib.cell_of_heap HB.out.2];rfl
    have q1:wr.cell? ⟨g,1,none⟩=some (.slice a1 l1 c1):=by rw [Lib.cell_of_heap HB.out.2];rfl
    have HBA:Hid ((Below w.heap.size w (wr.alloc (.cells #[.string ⟨#[110,101,101,100,115]⟩,.slice a1 l1 c1] 180))∧BxM (wr.alloc (.cells #[.string ⟨#[110,101,101,100,115]⟩,.slice a1 l1 c1] 180)) w.heap.size (.slice a1 l1 c1) (.slice a2 l2 c2) (.slice a3 l3 c3) (.slice a4 l4 c4))∧(wr.alloc (.cells #[.string ⟨#[110,101,101,100,115]⟩,.slice a1 l1 c1] 180)).heap[g]? =some (bM (.slice a1 l1 c1) (.slice a2 l2 c2) (.slice a3 l3 c3) (.slice a4 l4 c4))):=⟨⟨aA HB.out.1.1 (aC _ _),HKB.out _ _ HB.out.1.2 (aC _ _)⟩,((aC _ _).block g (Array.getElem?_eq_some_iff.1 HB.out.2).1).trans HB.out.2⟩;clear hb e1 e2 e3 e4;cases m1
    · have HR:Hid (SB=false):=by unfold Hid;rw [HSB.out];simp
      go_wp2_with (go_at_call 197;refine (HM1.out _ HBA.out.1.1).mono ?_;rintro e w4 ⟨rfl,ok⟩;have HO4:=aB (aA HBA.out.1.1 ok);clear ok)
      go_ret;exact ⟨aD HR.out.symm,HO4.out⟩
    · go_wp2_with (go_at_call 197;refine (HM1.out _ HBA.out.1.1).mono ?_;rintro e w4 ⟨rfl,ok⟩;have HO4:Hid ((Below w.heap.size w w4∧BxM w4 w.heap.size (.slice a1 l1 c1) (.slice a2 l2 c2) (.slice a3 l3 c3) (.slice a4 l4 c4))∧w4.heap[g]? =some (bM (.slice a1 l1 c1) (.slice a2 l2 c2) (.slice a3 l3 c3) (.slice a4 l4 c4))):=⟨⟨aA HBA.out.1.1 ok,HKB.out _ _ HBA.out.1.2 ok⟩,(ok.block g (Array.getElem?_eq_some_iff.1 HBA.out.2).1).trans HBA.out.2⟩;clear ok)
      exact ⟨⟨1,by omega,rfl,HO4.out,(fun _=>trivial),(fun h=>by omega),(fun h=>by omega),(fun h=>by omega)⟩,by simp [intOf]⟩
  · have e1':=e1 (by omega)
    subst e1';have q0:wr.cell? ⟨g,2,none⟩=some (.string ⟨#[100,101,118]⟩):=by rw [Lib.cell_of_heap HB.out.2];rfl
    have q1:wr.cell? ⟨g,3,none⟩=some (.slice a2 l2 c2):=by rw [Lib.cell_of_heap HB.out.2];rfl
    have HBA:Hid ((Below w.heap.size w (wr.alloc (.cells #[.string ⟨#[100,101,118]⟩,.slice a2 l2 c2] 180))∧BxM (wr.alloc (.cells #[.string ⟨#[100,101,118]⟩,.slice a2 l2 c2] 180)) w.heap.size (.slice a1 l1 c1) (.slice a2 l2 c2) (.slice a3 l3 c3) (.slice a4 l4 c4))∧(wr.alloc (.cells #[.string ⟨#[100,101,118]⟩,.slice a2 l2 c2] 180)).heap[g]? =some (bM (.slice a1 l1 c1) (.slice a2 l2 c2) (.slice a3 l3 c3) (.slice a4 l4 c4))):=⟨⟨aA HB.out.1.1 (aC _ _),HKB.out _ _ HB.out.1.2 (aC _ _)⟩,((aC _ _).block g (Array.getElem?_eq_some_iff.1 HB.out.2).1).trans HB.out.2⟩;clear hb e1 e2 e3 e4;cases m2
    · have HR:Hid (SB=false):=by unfold Hid;rw [HSB.out];simp
      go_wp2_with (go_at_call 197;refine (HM2.out _ HBA.out.1.1).mono ?_;rintro e w4 ⟨rfl,ok⟩;have HO4:=aB (aA HBA.out.1.1 ok);clear ok)
      go_ret;exact ⟨aD HR.out.symm,HO4.out⟩
    · go_wp2_with (go_at_call 197;refine (HM2.out _ HBA.out.1.1).mono ?_;rintro e w4 ⟨rfl,ok⟩;have HO4:Hid ((Below w.heap.size w w4∧BxM w4 w.heap.size (.slice a1 l1 c1) (.slice a2 l2 c2) (.slice a3 l3 c3) (.slice a4 l4 c4))∧w4.heap[g]? =some (bM (.slice a1 l1 c1) (.slice a2 l2 c2) (.slice a3 l3 c3) (.slice a4 l4 c4))):=⟨⟨aA HBA.out.1.1 ok,HKB.out _ _ HBA.out.1.2 ok⟩,(ok.block g (Array.getElem?_eq_some_iff.1 HBA.out.2).1).trans HBA.out.2⟩;clear ok)
      exact ⟨⟨2,by omega,rfl,HO4.out,(fun _=>trivial),(fun _=>trivial),(fun h=>by omega),(fun h=>by omega)⟩,by simp [intOf]⟩
  · have e1':=e1 (by omega)
    have e2':=e2 (by omega);subst e1' e2';have q0:wr.cell? ⟨g,4,none⟩=some (.string ⟨#[108,105,107,101,115]⟩):=by rw [Lib.cell_of_heap HB.out.2];rfl
    have q1:wr.cell? ⟨g,5,none⟩=some (.slice a3 l3 c3):=by rw [Lib.cell_of_heap HB.out.2];rfl
    have HBA:Hid ((Below w.heap.size w (wr.alloc (.cells #[.string ⟨#[108,105,107,101,115]⟩,.slice a3 l3 c3] 180))∧BxM (wr.alloc (.cells #[.string ⟨#[108,105,107,101,115]⟩,.slice a3 l3 c3] 180)) w.heap.size (.slice a1 l1 c1) (.slice a2 l2 c2) (.slice a3 l3 c3) (.slice a4 l4 c4))∧(wr.alloc (.cells #[.string ⟨#[108,105,107,101,115]⟩,.slice a3 l3 c3] 180)).heap[g]? =some (bM (.slice a1 l1 c1) (.slice a2 l2 c2) (.slice a3 l3 c3) (.slice a4 l4 c4))):=⟨⟨aA HB.out.1.1 (aC _ _),HKB.out _ _ HB.out.1.2 (aC _ _)⟩,((aC _ _).block g (Array.getElem?_eq_some_iff.1 HB.out.2).1).trans HB.out.2⟩;clear hb e1 e2 e3 e4;cases m3
    · have HR:Hid (SB=false):=by unfold Hid;rw [HSB.out];simp
      go_wp2_with (go_at_call 197;refine (HM3.out _ HBA.out.1.1).mono ?_;rintro e w4 ⟨rfl,ok⟩;have HO4:=aB (aA HBA.out.1.1 ok);clear ok)
      go_ret;exact ⟨aD HR.out.symm,HO4.out⟩
    · go_wp2_with (go_at_call 197;refine (HM3.out _ HBA.out.1.1).mono ?_;rintro e w4 ⟨rfl,ok⟩;have HO4:Hid ((Below w.heap.size w w4∧BxM w4 w.heap.size (.slice a1 l1 c1) (.slice a2 l2 c2) (.slice a3 l3 c3) (.slice a4 l4 c4))∧w4.heap[g]? =some (bM (.slice a1 l1 c1) (.slice a2 l2 c2) (.slice a3 l3 c3) (.slice a4 l4 c4))):=⟨⟨aA HBA.out.1.1 ok,HKB.out _ _ HBA.out.1.2 ok⟩,(ok.block g (Array.getElem?_eq_some_iff.1 HBA.out.2).1).trans HBA.out.2⟩;clear ok)
      exact ⟨⟨3,by omega,rfl,HO4.out,(fun _=>trivial),(fun _=>trivial),(fun _=>trivial),(fun h=>by omega)⟩,by simp [intOf]⟩
  · have e1':=e1 (by omega)
    have e2':=e2 (by omega);have e3':=e3 (by omega);subst e1' e2' e3';have q0:wr.cell? ⟨g,6,none⟩=some (.string ⟨#[112,105,110,115]⟩):=by rw [Lib.cell_of_heap HB.out.2];rfl
    have q1:wr.cell? ⟨g,7,none⟩=some (.slice a4 l4 c4):=by rw [Lib.cell_of_heap HB.out.2];rfl
    have HBA:Hid ((Below w.heap.size w (wr.alloc (.cells #[.string ⟨#[112,105,110,115]⟩,.slice a4 l4 c4] 180))∧BxM (wr.alloc (.cells #[.string ⟨#[112,105,110,115]⟩,.slice a4 l4 c4] 180)) w.heap.size (.slice a1 l1 c1) (.slice a2 l2 c2) (.slice a3 l3 c3) (.slice a4 l4 c4))∧(wr.alloc (.cells #[.string ⟨#[112,105,110,115]⟩,.slice a4 l4 c4] 180)).heap[g]? =some (bM (.slice a1 l1 c1) (.slice a2 l2 c2) (.slice a3 l3 c3) (.slice a4 l4 c4))):=⟨⟨aA HB.out.1.1 (aC _ _),HKB.out _ _ HB.out.1.2 (aC _ _)⟩,((aC _ _).block g (Array.getElem?_eq_some_iff.1 HB.out.2).1).trans HB.out.2⟩;clear hb e1 e2 e3 e4;cases m4
    · have HR:Hid (SB=false):=by unfold Hid;rw [HSB.out];simp
      go_wp2_with (go_at_call 197;refine (HM4.out _ HBA.out.1.1).mono ?_;rintro e w4 ⟨rfl,ok⟩;have HO4:=aB (aA HBA.out.1.1 ok);clear ok)
      go_ret;exact ⟨aD HR.out.symm,HO4.out⟩
    · go_wp2_with (go_at_call 197;refine (HM4.out _ HBA.out.1.1).mono ?_;rintro e w4 ⟨rfl,ok⟩;have HO4:Hid ((Below w.heap.size w w4∧BxM w4 w.heap.size (.slice a1 l1 c1) (.slice a2 l2 c2) (.slice a3 l3 c3) (.slice a4 l4 c4))∧w4.heap[g]? =some (bM (.slice a1 l1 c1) (.slice a2 l2 c2) (.slice a3 l3 c3) (.slice a4 l4 c4))):=⟨⟨aA HBA.out.1.1 ok,HKB.out _ _ HBA.out.1.2 ok⟩,(ok.block g (Array.getElem?_eq_some_iff.1 HBA.out.2).1).trans HBA.out.2⟩;clear ok)
      exact ⟨⟨4,by omega,rfl,HO4.out,(fun _=>trivial),(fun _=>trivial),(fun _=>trivial),(fun _=>trivial)⟩,by simp [intOf]⟩
  · have e1':=e1 (by omega)
    have e2':=e2 (by omega);have e3':=e3 (by omega);have e4':=e4 (by omega);subst e1' e2' e3' e4';have HR:Hid (SB=ob):=by unfold Hid;rw [HSB.out];simp
    have HEW:=aB (HEO.out rfl rfl rfl);obtain ⟨k0,k1,k2,k3,k4⟩:=HB.out.1.2;clear hb e1 e2 e3 e4
    go_wp2_with (go_at_call 198;refine (HEW.out _ HB.out.1.1).mono ?_;rintro e w4 ⟨rfl,ok⟩;have HO4:=aB (aA (aA HB.out.1.1 (aC _ _)) ok);clear ok)
    go_ret;exact ⟨aD HR.out.symm,HO4.out⟩
def mwK:Nat→ByteArray
 |0=>⟨#[110,101,101,100,115]⟩
 |1=>⟨#[100,101,118]⟩
 |2=>⟨#[108,105,107,101,115]⟩
 |_=>⟨#[112,105,110,115]⟩
theorem CO (k:Nat):(mwK k).size≤16:=by
 match k with
 |0|1|2=>decide
 |_+3=>show (⟨#[112,105,110,115]⟩:ByteArray).size≤16;decide
def kG (P:Mn):Nat→Sc.Bs
 |0=>[112,114,111,106,101,99,116,10]
 |1=>[112,114,111,106,101,99,116,10]++bQ (mwK 0) P.d
 |2=>[112,114,111,106,101,99,116,10]++bQ (mwK 0) P.d++bQ (mwK 1) P.v
 |3=>[112,114,111,106,101,99,116,10]++bQ (mwK 0) P.d++bQ (mwK 1) P.v++bQ (mwK 2) P.o
 |_=>[112,114,111,106,101,99,116,10]++bQ (mwK 0) P.d++bQ (mwK 1) P.v++bQ (mwK 2) P.o++bQ (mwK 3) P.p
def mA (P:Mn):Sc.Bs:=kG P 4
noncomputable def aN (P:Mn):Bool:=gI P&&decide ((mA P).length≤4096)
noncomputable def aF (P:Mn):ByteArray:=if aN P=true then ⟨(mA P).toArray⟩ else ⟨#[]⟩
set_option maxHeartbeats 6400000 in
theorem wI {P:Mn} {v1 v2 v3 v4:Value} {w:World} (h:MnAt w P v1 v2 v3 v4) (he:Env w) (hf:FL w) (hsd:gI P=true):
 Calls Tryz.prog 111 #[.agg #[v1,v2,v3,v4]] w fun e w'=>e= .returned (.tuple #[.string (aF P),.bool (aN P)])∧Below w.heap.size w w':=by
 have HSO:Hid (∀ w1,Below w.heap.size w w1→Calls Tryz.prog 156 #[.agg #[v1,v2,v3,v4]] w1 fun e w'=>e= .returned (.bool true)∧Below w1.heap.size w1 w'):=fun w1 hb=>by have:=GU (h.below hb);rw [hsd] at this;exact this
 have hs:=hsd;unfold gI at hs;simp only [Bool.and_eq_true] at hs;obtain ⟨⟨hd,hv,ho,hp⟩,_⟩:=hs;have HPG:Hid (∀ w1,Below w.heap.size w w1→MnAt w1 P v1 v2 v3 v4):=fun w1 hb=>h.below hb
 have HMD:Hid (bV P.d=true∧bV P.v=true∧bV P.o=true∧bV P.p=true):=⟨hd,hv,ho,hp⟩;have HF0:=aB (jE (CO 0) hd P.d.length);have HF1:=aB (jE (CO 1) hv P.v.length);have HF2:=aB (jE (CO 2) ho P.o.length);rw [List.take_length] at HF0 HF1 HF2;have HWB:Hid (aN P=decide ((mA P).length≤4096)):=by unfold Hid aN;rw [hsd];rfl
 have HPT:Hid (kG P 4=mA P):=rfl;obtain ⟨a1,c1,rfl⟩:=h.1.sl;obtain ⟨a2,c2,rfl⟩:=h.2.1.sl;obtain ⟨a3,c3,rfl⟩:=h.2.2.1.sl;obtain ⟨a4,c4,rfl⟩:=h.2.2.2.sl;have HLI:Hid (∀ w1,Calls Tryz.prog 120 #[.agg #[.slice a1 P.d.length c1,.slice a2 P.v.length c2,.slice a3 P.o.length c3,.slice a4 P.p.length c4]] w1 fun e w'=>∃ g,e= .returned (.slice (some ⟨g,0,none⟩) 4 4)∧Below w1.heap.size w1 w'∧w1.heap.size≤g∧w'.heap[g]? =some (bM (.slice a1 P.d.length c1) (.slice a2 P.v.length c2) (.slice a3 P.o.length c3) (.slice a4 P.p.length c4))):=fun w1=>kT _ _ _ _ _ _ _ _ _ _ _ _ w1
 have HLE:Hid (∀ w1 l w',TW w1 l w'→Calls Tryz.prog 158 #[.pointer (some ⟨w1.heap.size,0,none⟩)] w' fun e w2=>e= .returned (.int .i64 l.length)∧w2=w'):=fun w1 l w' h=>PJ h.1
 have HST:Hid (∀ w1 l w',TW w1 l w'→Calls Tryz.prog 55 #[.pointer (some ⟨w1.heap.size,0,none⟩)] w' fun e w2=>e= .returned (.string ⟨l.toArray⟩)∧Below w1.heap.size w' w2):=fun w1 l w' h=>Tryz.Builder_String_any _ _ l w' h.1 h.2.size
 have HWR:Hid (∀ w1,Below w.heap.size w w1→∀ (l:Sc.Bs) wz (x:ByteArray) v L,TW w1 l wz→DepsAt w1 v L→bV L=true→x.size≤16→l.length≤1000000→Calls Tryz.prog 157 #[.pointer (some ⟨w1.heap.size,0,none⟩),.string x,v] wz fun e w'=>e= .returned (.tuple #[])∧TW w1 (l++bQ x L) w'∧FarB w1.heap.size wz w'):=fun w1 hb l wz x v L h1 h2 h3 h4 h5=>zV h1 h2 h3 (he.below hb) (hf.below hb) h4 h5
 have HPU:Hid (∀ w1 (l:Sc.Bs) wz (s:ByteArray),TW w1 l wz→l.length≤1000000→s.size≤1000000→Calls Tryz.prog 54 #[.pointer (some ⟨w1.heap.size,0,none⟩),.string s] wz fun e w'=>e= .returned (.tuple #[.int .i64 s.size,.nilIface])∧TW w1 (l++s.data.toList) w'∧FarB w1.heap.size wz w'):=fun w1 l wz s h1 h2 h3=>h1.put s (by omega) h3
 clear h he hf hsd hd hv ho hp;have HBX:Hid (BxM (w.alloc (.cells #[.slice a1 P.d.length c1,.slice a2 P.v.length c2,.slice a3 P.o.length c3,.slice a4 P.p.length c4] 24)) w.heap.size (.slice a1 P.d.length c1) (.slice a2 P.v.length c2) (.slice a3 P.o.length c3) (.slice a4 P.p.length c4)):=BxM.new rfl _ _ _ _;have HKB:Hid (KeepP fun w1=>BxM w1 w.heap.size (.slice a1 P.d.length c1) (.slice a2 P.v.length c2) (.slice a3 P.o.length c3) (.slice a4 P.p.length c4)):=jU _ _ _ _ _
 go_enter Tryz.func111,Tryz.ntmps111
 go_wp2_with (first
  |(go_at_call 156;refine (HSO.out _ (aC _ _)).mono ?_;rintro e w1 ⟨rfl,ok⟩;have HO1:Hid (Below w.heap.size w w1∧BxM w1 w.heap.size (.slice a1 P.d.length c1) (.slice a2 P.v.length c2) (.slice a3 P.o.length c3) (.slice a4 P.p.length c4)):=⟨aA (aC _ _) ok,HKB.out _ _ HBX.out ok⟩;have HT0:Hid (TW w1 [] (w1.alloc (.cells #[.pointer none,.slice none 0 0] 118))):=TW.new w1;clear ok HBX)
  |(go_at_call 54;refine (HPU.out w1 [] _ ⟨#[112,114,111,106,101,99,116,10]⟩ HT0.out (by decide) (by decide)).mono ?_;rintro e w3 ⟨rfl,ok,_⟩;have HT3:Hid (TW w1 (kG P 0) w3):=ok;have HX3:=aB (HKB.out _ _ HO1.out.2 HT3.out.2);obtain ⟨k0,k1,k2,k3,k4⟩:=HX3.out;clear ok)
  |(go_at_call 120;refine (HLI.out _).mono ?_;rintro e w4 ⟨g,rfl,ok,hg,hgl⟩;have HT4:Hid (TW w1 (kG P 0) w4∧w4.heap[g]? =some (bM (.slice a1 P.d.length c1) (.slice a2 P.v.length c2) (.slice a3 P.o.length c3) (.slice a4 P.p.length c4))∧w1.heap.size<g):=⟨jF _ _ _ _ HT3.out ok,hgl,by have:=HT3.out.far;omega⟩;clear ok hg hgl k0 k1 k2 k3 k4))
 go_loopw [14] (fun i wr=>∃ k:Nat,k≤4∧i= .int .i64 k∧TW w1 (kG P k) wr∧wr.heap[g]? =some (bM (.slice a1 P.d.length c1) (.slice a2 P.v.length c2) (.slice a3 P.o.length c3) (.slice a4 P.p.length c4))∧w1.heap.size<g) (fun i _=>4 - (intOf i).toNat)
 case atStart=>exact ⟨0,Nat.zero_le _,rfl,HT4.out⟩
 case round=>
  clear HT4;obtain ⟨k,hk,rfl,htw⟩:=hrel
  rcases (show k=0∨k=1∨k=2∨k=3∨k=4 by omega) with rfl|rfl|rfl|rfl|rfl
  · have HTK:=aB htw
    clear htw;have q0:wr.cell? ⟨g,0,none⟩=some (.string ⟨#[110,101,101,100,115]⟩):=by rw [Lib.cell_of_heap HTK.out.2.1];rfl
    have q1:wr.cell? ⟨g,1,none⟩=some (.slice a1 P.d.length c1):=by rw [Lib.cell_of_heap HTK.out.2.1];rfl
    have hpl:(kG P 0).length≤1000000:=by
     have h2:=HF0.out;have h3:=HF1.out;have h4:=HF2.out;show 8≤1000000;decide
    have HTA:Hid (TW w1 (kG P 0) (wr.alloc (.cells #[.string ⟨#[110,101,101,100,115]⟩,.slice a1 P.d.length c1] 180))∧(wr.alloc (.cells #[.string ⟨#[110,101,101,100,115]⟩,.slice a1 P.d.length c1] 180)).heap[g]? =some (bM (.slice a1 P.d.length c1) (.slice a2 P.v.length c2) (.slice a3 P.o.length c3) (.slice a4 P.p.length c4))∧w1.heap.size<g):=⟨jF _ _ _ _ HTK.out.1 (aC _ _),((aC _ _).block g (Array.getElem?_eq_some_iff.1 HTK.out.2.1).1).trans HTK.out.2.1,HTK.out.2.2⟩
    go_wp2_with (go_at_call 157;refine (HWR.out w1 HO1.out.1 _ _ ⟨#[110,101,101,100,115]⟩ _ P.d HTA.out.1 (HPG.out w1 HO1.out.1).1 HMD.out.1 (by decide) hpl).mono ?_;rintro e w5 ⟨rfl,ok,far⟩;have HT5:Hid (TW w1 (kG P (0+1)) w5∧w5.heap[g]? =some (bM (.slice a1 P.d.length c1) (.slice a2 P.v.length c2) (.slice a3 P.o.length c3) (.slice a4 P.p.length c4))∧w1.heap.size<g):=⟨ok,far _ _ _ _ HTA.out.2.1 (by decide) (by have:=HTA.out.2.2;omega),HTA.out.2.2⟩;clear ok far)
    exact ⟨⟨0+1,by omega,rfl,HT5.out⟩,by simp [intOf]⟩
  · have HTK:=aB htw
    clear htw;have q0:wr.cell? ⟨g,2,none⟩=some (.string ⟨#[100,101,118]⟩):=by rw [Lib.cell_of_heap HTK.out.2.1];rfl
    have q1:wr.cell? ⟨g,3,none⟩=some (.slice a2 P.v.length c2):=by rw [Lib.cell_of_heap HTK.out.2.1];rfl
    have hpl:(kG P 1).length≤1000000:=by
     have h2:=HF0.out;have h3:=HF1.out;have h4:=HF2.out;simp only [kG,List.length_append,List.length_cons,List.length_nil] at*;omega
    have HTA:Hid (TW w1 (kG P 1) (wr.alloc (.cells #[.string ⟨#[100,101,118]⟩,.slice a2 P.v.length c2] 180))∧(wr.alloc (.cells #[.string ⟨#[100,101,118]⟩,.slice a2 P.v.length c2] 180)).heap[g]? =some (bM (.slice a1 P.d.length c1) (.slice a2 P.v.length c2) (.slice a3 P.o.length c3) (.slice a4 P.p.length c4))∧w1.heap.size<g):=⟨jF _ _ _ _ HTK.out.1 (aC _ _),((aC _ _).block g (Array.getElem?_eq_some_iff.1 HTK.out.2.1).1).trans HTK.out.2.1,HTK.out.2.2⟩
    go_wp2_with (go_at_call 157;refine (HWR.out w1 HO1.out.1 _ _ ⟨#[100,101,118]⟩ _ P.v HTA.out.1 (HPG.out w1 HO1.out.1).2.1 HMD.out.2.1 (by decide) hpl).mono ?_;rintro e w5 ⟨rfl,ok,far⟩;have HT5:Hid (TW w1 (kG P (1+1)) w5∧w5.heap[g]? =some (bM (.slice a1 P.d.length c1) (.slice a2 P.v.length c2) (.slice a3 P.o.length c3) (.slice a4 P.p.length c4))∧w1.heap.size<g):=⟨ok,far _ _ _ _ HTA.out.2.1 (by decide) (by have:=HTA.out.2.2;omega),HTA.out.2.2⟩;clear ok far)
    exact ⟨⟨1+1,by omega,rfl,HT5.out⟩,by simp [intOf]⟩
  · have HTK:=aB htw
    clear htw;have q0:wr.cell? ⟨g,4,none⟩=some (.string ⟨#[108,105,107,101,115]⟩):=by rw [Lib.cell_of_heap HTK.out.2.1];rfl
    have q1:wr.cell? ⟨g,5,none⟩=some (.slice a3 P.o.length c3):=by rw [Lib.cell_of_heap HTK.out.2.1];rfl
    have hpl:(kG P 2).length≤1000000:=by
     have h2:=HF0.out;have h3:=HF1.out;have h4:=HF2.out;simp only [kG,List.length_append,List.length_cons,List.length_nil] at*;omega
    have HTA:Hid (TW w1 (kG P 2) (wr.alloc (.cells #[.string ⟨#[108,105,107,101,115]⟩,.slice a3 P.o.length c3] 180))∧(wr.alloc (.cells #[.string ⟨#[108,105,107,101,115]⟩,.slice a3 P.o.length c3] 180)).heap[g]? =some (bM (.slice a1 P.d.length c1) (.slice a2 P.v.length c2) (.slice a3 P.o.length c3) (.slice a4 P.p.length c4))∧w1.heap.size<g):=⟨jF _ _ _ _ HTK.out.1 (aC _ _),((aC _ _).block g (Array.getElem?_eq_some_iff.1 HTK.out.2.1).1).trans HTK.out.2.1,HTK.out.2.2⟩
    go_wp2_with (go_at_call 157;refine (HWR.out w1 HO1.out.1 _ _ ⟨#[108,105,107,101,115]⟩ _ P.o HTA.out.1 (HPG.out w1 HO1.out.1).2.2.1 HMD.out.2.2.1 (by decide) hpl).mono ?_;rintro e w5 ⟨rfl,ok,far⟩;have HT5:Hid (TW w1 (kG P (2+1)) w5∧w5.heap[g]? =some (bM (.slice a1 P.d.length c1) (.slice a2 P.v.length c2) (.slice a3 P.o.length c3) (.slice a4 P.p.length c4))∧w1.heap.size<g):=⟨ok,far _ _ _ _ HTA.out.2.1 (by decide) (by have:=HTA.out.2.2;omega),HTA.out.2.2⟩;clear ok far)
    exact ⟨⟨2+1,by omega,rfl,HT5.out⟩,by simp [intOf]⟩
  · have HTK:=aB htw
    clear htw;have q0:wr.cell? ⟨g,6,none⟩=some (.string ⟨#[112,105,110,115]⟩):=by rw [Lib.cell_of_heap HTK.out.2.1];rfl
    have q1:wr.cell? ⟨g,7,none⟩=some (.slice a4 P.p.length c4):=by rw [Lib.cell_of_heap HTK.out.2.1];rfl
    have hpl:(kG P 3).length≤1000000:=by
     have h2:=HF0.out;have h3:=HF1.out;have h4:=HF2.out;simp only [kG,List.length_append,List.length_cons,List.length_nil] at*;omega
    have HTA:Hid (TW w1 (kG P 3) (wr.alloc (.cells #[.string ⟨#[112,105,110,115]⟩,.slice a4 P.p.length c4] 180))∧(wr.alloc (.cells #[.string ⟨#[112,105,110,115]⟩,.slice a4 P.p.length c4] 180)).heap[g]? =some (bM (.slice a1 P.d.length c1) (.slice a2 P.v.length c2) (.slice a3 P.o.length c3) (.slice a4 P.p.length c4))∧w1.heap.size<g):=⟨jF _ _ _ _ HTK.out.1 (aC _ _),((aC _ _).block g (Array.getElem?_eq_some_iff.1 HTK.out.2.1).1).trans HTK.out.2.1,HTK.out.2.2⟩
    go_wp2_with (go_at_call 157;refine (HWR.out w1 HO1.out.1 _ _ ⟨#[112,105,110,115]⟩ _ P.p HTA.out.1 (HPG.out w1 HO1.out.1).2.2.2 HMD.out.2.2.2 (by decide) hpl).mono ?_;rintro e w5 ⟨rfl,ok,far⟩;have HT5:Hid (TW w1 (kG P (3+1)) w5∧w5.heap[g]? =some (bM (.slice a1 P.d.length c1) (.slice a2 P.v.length c2) (.slice a3 P.o.length c3) (.slice a4 P.p.length c4))∧w1.heap.size<g):=⟨ok,far _ _ _ _ HTA.out.2.1 (by decide) (by have:=HTA.out.2.2;omega),HTA.out.2.2⟩;clear ok far)
    exact ⟨⟨3+1,by omega,rfl,HT5.out⟩,by simp [intOf]⟩
  · have HTE:=aB htw.1
    rw [HPT.out] at HTE;clear htw
    by_cases hlen:(mA P).length≤4096
    · have HR:Hid (aN P=true∧aF P=⟨(mA P).toArray⟩):=by
       have:aN P=true:=by rw [HWB.out];exact decide_eq_true hlen
       exact ⟨this,by unfold aF;rw [if_pos this]⟩
      go_wp2_with (first
       |(go_at_call 158;refine (HLE.out _ _ _ HTE.out).mono ?_;rintro e w5 ⟨rfl,rfl⟩)
       |(go_at_call 55;refine (HST.out _ _ _ HTE.out).mono ?_;rintro e w6 ⟨rfl,ok⟩;have HB6:=aB (aA HO1.out.1 (HTE.out.2.trans ok));clear ok))
      go_ret2;exact ⟨by rw [HR.out.1,HR.out.2];rfl,HB6.out⟩
    · have HR:Hid (aN P=false∧aF P=⟨#[]⟩):=by
       have:aN P=false:=by rw [HWB.out];exact decide_eq_false hlen
       exact ⟨this,by unfold aF;rw [if_neg (by rw [this];simp)]⟩
      go_wp2_with (go_at_call 158;refine (HLE.out _ _ _ HTE.out).mono ?_;rintro e w5 ⟨rfl,rfl⟩)
      go_ret2;exact ⟨by rw [HR.out.1,HR.out.2];rfl,aA HO1.out.1 HTE.out.2⟩
theorem qK {P:Mn} {v1 v2 v3 v4:Value} {w:World} (h:MnAt w P v1 v2 v3 v4) (he:Env w) (hf:FL w):
 Calls Tryz.prog 111 #[.agg #[v1,v2,v3,v4]] w fun e w'=>e= .returned (.tuple #[.string (aF P),.bool (aN P)])∧Below w.heap.size w w':=by
 cases hsd:gI P
 · have HSO:Hid (∀ w1,Below w.heap.size w w1→Calls Tryz.prog 156 #[.agg #[v1,v2,v3,v4]] w1 fun e w'=>e= .returned (.bool false)∧Below w1.heap.size w1 w'):=fun w1 hb=>by have:=GU (h.below hb);rw [hsd] at this;exact this
   have HR:Hid (aN P=false∧aF P=⟨#[]⟩):=by
    have:aN P=false:=by unfold aN;rw [hsd];rfl
    exact ⟨this,by unfold aF;rw [if_neg (by rw [this];simp)]⟩
   obtain ⟨a1,c1,rfl⟩:=h.1.sl;obtain ⟨a2,c2,rfl⟩:=h.2.1.sl;obtain ⟨a3,c3,rfl⟩:=h.2.2.1.sl;obtain ⟨a4,c4,rfl⟩:=h.2.2.2.sl;clear h he hf hsd
   go_enter Tryz.func111,Tryz.ntmps111
   go_wp2_with (go_at_call 156;refine (HSO.out _ (aC _ _)).mono ?_;rintro e w1 ⟨rfl,ok⟩;have HO1:=aB (aA (aC _ _) ok);clear ok)
   go_ret2;exact ⟨by rw [HR.out.1,HR.out.2];rfl,HO1.out⟩
 · exact wI h he hf hsd
theorem GV {P:Mn} {v1 v2 v3 v4:Value} {w:World} (h:MnAt w P v1 v2 v3 v4) (he:Env w) (hf:FL w):
 Calls Tryz.prog 61 #[.agg #[v1,v2,v3,v4]] w fun e w'=>e= .returned (.bool (aN P))∧Below w.heap.size w w':=by
 have HW:Hid (∀ w1,Below w.heap.size w w1→Calls Tryz.prog 111 #[.agg #[v1,v2,v3,v4]] w1 fun e w'=>e= .returned (.tuple #[.string (aF P),.bool (aN P)])∧Below w1.heap.size w1 w'):=fun w1 hb=>qK (h.below hb) (he.below hb) (hf.below hb)
 obtain ⟨a1,c1,rfl⟩:=h.1.sl;obtain ⟨a2,c2,rfl⟩:=h.2.1.sl;obtain ⟨a3,c3,rfl⟩:=h.2.2.1.sl;obtain ⟨a4,c4,rfl⟩:=h.2.2.2.sl;clear h he hf
 go_enter Tryz.func61,Tryz.ntmps61
 go_wp2_with (go_at_call 111;refine (HW.out _ (aC _ _)).mono ?_;rintro e w1 ⟨rfl,ok⟩;have HO1:=aB (aA (aC _ _) ok);clear ok)
 go_ret;exact ⟨rfl,HO1.out⟩
theorem wJ {P:Mn} {v1 v2 v3 v4:Value} {w:World} (h:MnAt w P v1 v2 v3 v4) (he:Env w) (hf:FL w):
 Calls Tryz.prog 74 #[.agg #[v1,v2,v3,v4]] w fun e w'=>e= .returned (.tuple #[.string (aF P),.int .i64 (if aN P=true then 0 else 25)])∧Below w.heap.size w w':=by
 have HW:Hid (∀ w1,Below w.heap.size w w1→Calls Tryz.prog 111 #[.agg #[v1,v2,v3,v4]] w1 fun e w'=>e= .returned (.tuple #[.string (aF P),.bool (aN P)])∧Below w1.heap.size w1 w'):=fun w1 hb=>qK (h.below hb) (he.below hb) (hf.below hb)
 obtain ⟨a1,c1,rfl⟩:=h.1.sl;obtain ⟨a2,c2,rfl⟩:=h.2.1.sl;obtain ⟨a3,c3,rfl⟩:=h.2.2.1.sl;obtain ⟨a4,c4,rfl⟩:=h.2.2.2.sl;clear h he hf;have HWT:Hid (aN P=false→aF P=⟨#[]⟩):=fun hb=>by unfold aF;rw [if_neg (by rw [hb];simp)]
 cases hwb:aN P
 · rw [hwb] at HW
   have HT:=aB (HWT.out hwb);rw [HT.out] at HW ⊢
   go_enter Tryz.func74,Tryz.ntmps74
   go_wp2_with (go_at_call 111;refine (HW.out _ (aC _ _)).mono ?_;rintro e w1 ⟨rfl,ok⟩;have HO1:=aB (aA (aC _ _) ok);clear ok)
   go_ret2;exact ⟨rfl,HO1.out⟩
 · rw [hwb] at HW
   go_enter Tryz.func74,Tryz.ntmps74
   go_wp2_with (go_at_call 111;refine (HW.out _ (aC _ _)).mono ?_;rintro e w1 ⟨rfl,ok⟩;have HO1:=aB (aA (aC _ _) ok);clear ok)
   go_ret2;exact ⟨rfl,HO1.out⟩
end Go.Proofs.YtmnhnofnlcbliaaGreatDoor
namespace Go.Proofs.YtmnhnofnlcbliaaGreatDoor.Sc
set_option maxRecDepth 100000
def dgP (d:UInt8):Prop:=48≤d.toNat∧d.toNat≤57
def Eu (n d:Nat):Bool:=decide (n≤(9223372036854775807 - d) / 10)
theorem GW (n d:Nat):Eu n d=true↔n≤(9223372036854775807 - d) / 10:=by unfold Eu;rw [decide_eq_true_eq]
def MM:Nat→Bs→Option Nat
 |n,[]=>some n
 |n,b::r=>if 48≤b.toNat∧b.toNat≤57∧Eu n (b.toNat - 48)=true then MM (10*n+(b.toNat - 48)) r else none
def oQ (T:Bs):Option Nat:=if T=[]∨(T.head? =some 48∧1<T.length) then none else MM 0 T
def dK (n:Nat) (l:Bs):Nat:=l.foldl (fun n d=>n*10+(d.toNat - 48)) n
theorem dV (n:Nat) (d:UInt8) (l:Bs):dK n (d::l)=dK (n*10+(d.toNat - 48)) l:=by unfold dK;rw [List.foldl_cons]
theorem oR:∀ (l:Bs) (n:Nat),n≤dK n l
 |[],n=>Nat.le_refl _
 |d::l,n=>by rw [dV];have:=oR l (n*10+(d.toNat - 48));omega
theorem AF:∀ (l:Bs) (n v:Nat),MM n l=some v→(∀ d ∈ l,dgP d)∧v=dK n l∧(n≤9223372036854775807→v≤9223372036854775807)
 |[],n,v,h=>by simp only [MM,Option.some.injEq] at h;subst h;exact ⟨fun d hd=>(by cases hd),rfl,id⟩
 |b::r,n,v,h=>by
  unfold MM at h
  split at h
  · rename_i hc
    rw [GW] at hc;obtain ⟨h1,h2,h3⟩:=AF r _ v h;refine ⟨fun d hd=> ?_,?_,fun _=>h3 (by omega)⟩
    · rcases List.mem_cons.1 hd with rfl|hd
      · exact ⟨hc.1,hc.2.1⟩
      · exact h1 d hd
    · rw [h2,dV,Nat.mul_comm 10 n]
  · cases h
theorem PX:∀ (l:Bs) (n:Nat),(∀ d ∈ l,dgP d)→dK n l≤9223372036854775807→MM n l=some (dK n l)
 |[],n,_,_=>rfl
 |b::r,n,hd,hv=>by
  rw [dV] at hv ⊢;have h1:=hd b (List.mem_cons_self);have h2:=oR r (n*10+(b.toNat - 48));unfold dgP at h1;unfold MM;rw [if_pos ⟨h1.1,h1.2,(GW _ _).2 (by omega)⟩,Nat.mul_comm 10 n];exact PX r _ (fun d h=>hd d (List.mem_cons_of_mem _ h)) hv
theorem GX:∀ (l:Bs) (n:Nat),(∀ d ∈ l,dgP d)→dK n l≤9223372036854775807→Lib.parseUint10 n l= .ok (dK n l)
 |[],n,_,_=>rfl
 |b::r,n,hd,hv=>by
  rw [dV] at hv ⊢;have h1:=hd b (List.mem_cons_self);have h2:=oR r (n*10+(b.toNat - 48));unfold dgP at h1;unfold Lib.parseUint10;rw [if_pos ⟨h1.1,h1.2⟩,if_neg (by omega),if_neg (by omega)];exact GX r _ (fun d h=>hd d (List.mem_cons_of_mem _ h)) hv
theorem dF {k:Nat} (h:k<10):(UInt8.ofNat (48+k)).toNat=48+k:=by
 rw [UInt8.toNat_ofNat'];omega
theorem YC {u:Nat} {d:UInt8} (hd:dgP d) (hu:1≤u):Lib.decDigits (u*10+(d.toNat - 48))=Lib.decDigits u++[d]:=by
 unfold dgP at hd;rw [Lib.decDigits,dif_neg (by omega)];have e1:(u*10+(d.toNat - 48)) / 10=u:=by omega
 have e2:(u*10+(d.toNat - 48)) % 10=d.toNat - 48:=by omega
 rw [e1,e2]
 congr 2
 exact UInt8.toNat_inj.1 (by rw [dF (by omega)];omega)
theorem pP:∀ (l:Bs) (u:Nat),(∀ d ∈ l,dgP d)→1≤u→Lib.decDigits (dK u l)=Lib.decDigits u++l
 |[],u,_,_=>by simp [dK]
 |d::l,u,hd,hu=>by
  rw [dV,pP l _ (fun x h=>hd x (List.mem_cons_of_mem _ h)) (by omega),YC (hd d List.mem_cons_self) hu]
  simp
theorem PY {d:UInt8} (hd:dgP d):Lib.decDigits (d.toNat - 48)=[d]:=by
 unfold dgP at hd;rw [Lib.decDigits,dif_pos (by omega)]
 congr 1
 exact UInt8.toNat_inj.1 (by rw [dF (by omega)];omega)
theorem dH (u:Nat):∀ d ∈ Lib.decDigits u,dgP d:=by
 induction u using Nat.strongRecOn with
 |_ u ih=>
  rw [Lib.decDigits]
  split
  · rename_i h
    intro d hd
    have:=dF h
    unfold dgP;rw [List.mem_singleton] at hd;subst hd;omega
  · rename_i h
    intro d hd
    rcases List.mem_append.1 hd with h1|h1
    · exact ih (u / 10) (by omega) d h1
    · have:=dF (k:=u % 10) (by omega)
      unfold dgP;rw [List.mem_singleton] at h1;subst h1;omega
theorem uT (n:Nat) (l:Bs) (d:UInt8):dK n (l++[d])=dK n l*10+(d.toNat - 48):=by simp [dK]
theorem pN (u:Nat):dK 0 (Lib.decDigits u)=u:=by
 induction u using Nat.strongRecOn with
 |_ u ih=>
  rw [Lib.decDigits]
  split
  · rename_i h
    have:=dF h
    simp [dK];omega
  · rename_i h
    rw [uT,ih (u / 10) (by omega)]
    have:=dF (k:=u % 10) (by omega)
    omega
theorem oE (u:Nat):Lib.decDigits u≠[]:=by
 rw [Lib.decDigits];split<;>simp
theorem YD (u:Nat) (h:1≤u):(Lib.decDigits u).head? ≠some 48:=by
 induction u using Nat.strongRecOn with
 |_ u ih=>
  rw [Lib.decDigits]
  split
  · rename_i h1
    have:=dF h1
    simp only [List.head?_cons,ne_eq,Option.some.injEq];intro e
    have:=congrArg UInt8.toNat e
    simp at this
    omega
  · rename_i h1
    have h2:=ih (u / 10) (by omega) (by omega);cases hc:Lib.decDigits (u / 10) with
    |nil=>exact absurd hc (oE _)
    |cons b r=>rw [hc] at h2;simpa using h2
theorem Br {u:Nat} (h:u<10):(Lib.decDigits u).length=1:=by rw [Lib.decDigits,dif_pos h];rfl
theorem PZ {n:Nat} (h:n≤9223372036854775807):oQ (Lib.decDigits n)=some n:=by
 unfold oQ;rw [if_neg]
 · rw [PX _ _ (dH n) (by rw [pN];exact h),pN]
 · rintro (h1|⟨h1,h2⟩)
   · exact oE _ h1
   · by_cases hn:n<10
     · rw [Br hn] at h2;omega
     · exact YD n (by omega) h1
theorem GY {T:Bs} {n:Nat} (h:oQ T=some n):T=Lib.decDigits n∧n≤9223372036854775807:=by
 unfold oQ at h
 split at h
 · cases h
 · rename_i hc
   obtain ⟨h1,h2,h3⟩:=AF T 0 n h;refine ⟨?_,h3 (by omega)⟩;cases T with
   |nil=>exact absurd (Or.inl rfl) hc
   |cons d r=>
    have hd:=h1 d List.mem_cons_self
    by_cases hz:d=48
    · cases r with
      |nil=>
       rw [h2,dV];subst hz;show [48]=Lib.decDigits (0*10+((48:UInt8).toNat - 48));rw [Nat.zero_mul,Nat.zero_add];exact (PY hd).symm
      |cons e r=>exact absurd (Or.inr ⟨by rw [hz];rfl,by simp⟩) hc
    · rw [h2,dV]
      have hne:d.toNat≠48:=fun e=>hz (UInt8.toNat_inj.1 e)
      unfold dgP at hd;rw [Nat.zero_mul,Nat.zero_add,pP r _ (fun x hx=>h1 x (List.mem_cons_of_mem _ hx)) (by omega),PY hd];rfl
theorem YE {n:Nat} (h:n≤9223372036854775807):Lib.atoiAll (Lib.decDigits n)= .ok (n:Int):=by
 have hd:=dH n;have hv:=pN n;cases hc:Lib.decDigits n with
 |nil=>exact absurd hc (oE _)
 |cons b r=>
  rw [hc] at hd hv;have hb:=hd b List.mem_cons_self;unfold dgP at hb;rw [Lib.atoiAll_plain b r (by omega) (by omega)];unfold Lib.parseMag;rw [if_neg (by simp),GX _ _ hd (by rw [hv];exact h),hv];unfold Lib.signless
  simp only
  rw [if_neg (by omega)]
def CP (T:Bs):Option Nat:=match Lib.atoiAll T with
 | .ok v=>if 0≤v∧Lib.itoa v=T then some v.toNat else none
 |_=>none
theorem gC {n:Int} (h:0≤n):Lib.itoa n=Lib.decDigits n.toNat:=by
 obtain ⟨u,rfl⟩:∃ u:Nat,n=u:=⟨n.toNat,by omega⟩;rw [Lib.itoa_nonneg];rfl
theorem YF (T:Bs):CP T=oQ T:=by
 cases h:oQ T with
 |some n=>
  obtain ⟨rfl,hn⟩:=GY h;unfold CP;rw [YE hn]
  simp only
  rw [if_pos ⟨by omega,by rw [Lib.itoa_nonneg]⟩]
  simp
 |none=>
  unfold CP;cases ha:Lib.atoiAll T with
  |ok v=>
   simp only
   split
   · rename_i hc
     have hb:=Lib.atoiAll_bounds ha;rw [←hc.2,gC hc.1,PZ (by omega)] at h;cases h
   · rfl
  |_=>rfl
end Go.Proofs.YtmnhnofnlcbliaaGreatDoor.Sc
