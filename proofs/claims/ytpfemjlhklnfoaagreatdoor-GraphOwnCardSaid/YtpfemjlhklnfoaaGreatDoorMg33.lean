/- Gl5: their declarations that are needed, laid in one text, remarks and blanks left out. -/
import Derived.Test.YtpfemjlhklnfoaaGreatDoorMg32
namespace Go.Proofs.YtpfemjlhklnfoaaGreatDoor
open Go.Shelf Go.RowKit Go.Maps Go.WideMaps
set_option maxRecDepth 100000
theorem DG (w:World):LN w 2:=fun w1 B v ts _ hB ho hl=>by
 have HO:=aA ho;have HE:Hid (dq ts=ts):=uY (by omega);obtain ⟨ad,cap,rfl⟩:=ho.lenG;have hl2:(ts.length:Int)<2:=by omega
 have hd:decide ((ts.length:Int)<2)=true:=decide_eq_true hl2;have HQ:Hid (∃ v',Ending.returned (.slice ad ts.length cap)= .returned v'∧OwnPn w1 B v' (dq ts)∧Below B w1 w1):=⟨_,rfl,by rw [HE.out];exact HO.out,Below.refl _ _⟩;clear ho hB hl
 go_enter Tryz.func77,Tryz.ntmps77
 go_wp2
 go_ret;exact HQ.out
def KL (w:World) (B:Nat) (W:World):Prop:=Below w.heap.size w W∧(W.cell? ⟨B+1,0,none⟩=some (.slice (some ⟨B,0,none⟩) 1 1)∧B+1<W.heap.size)∧(W.cell? ⟨B+3,0,none⟩=some (.slice (some ⟨B+2,0,none⟩) 2 2)∧B+3<W.heap.size)∧NdIn W B 0 nd0 (.slice none 0 0) (.slice none 0 0)∧NodesAt W (.slice (some ⟨B,0,none⟩) 1 1) [nd0]∧NodesAt W (.slice (some ⟨B+2,0,none⟩) 2 2) [nd0,nd1]
theorem NC (w:World) (B:Nat):KeepP (KL w B):=fun _ _ ⟨h1,⟨h2,h3⟩,⟨h4,h5⟩,h6,h7,h8⟩ hb=>
 ⟨aB h1 hb,⟨(hb.cell (p:=⟨B+1,0,none⟩) h3).trans h2,Nat.lt_of_lt_of_le h3 hb.size⟩,⟨(hb.cell (p:=⟨B+3,0,none⟩) h5).trans h4,Nat.lt_of_lt_of_le h5 hb.size⟩,h6.below hb,h7.below hb,h8.below hb⟩
theorem KL.new (w W:World) (hb:Below w.heap.size w W):KL w W.heap.size ((((W.alloc (.cells #[.string ⟨#[]⟩,.int .i64 0,.int .i64 0,.int .i64 0,.slice none 0 0,.slice none 0 0] 67)).alloc (.cells #[.slice (some ⟨W.heap.size,0,none⟩) 1 1] 55)).alloc (.cells #[.string ⟨#[]⟩,.int .i64 0,.int .i64 0,.int .i64 0,.slice none 0 0,.slice none 0 0,.string ⟨#[97]⟩,.int .i64 0,.int .i64 0,.int .i64 0,.slice none 0 0,.slice none 0 0] 67)).alloc (.cells #[.slice (some ⟨W.heap.size+2,0,none⟩) 2 2] 55)):=by
 obtain ⟨Y1,h1⟩:∃ X,X=W.alloc (.cells #[.string ⟨#[]⟩,.int .i64 0,.int .i64 0,.int .i64 0,.slice none 0 0,.slice none 0 0] 67):=⟨_,rfl⟩;have s1:Y1.heap.size=W.heap.size+1:=by rw [h1];simp
 have c1:Y1.cell? ⟨W.heap.size,0,none⟩=some (.string ⟨#[]⟩)∧Y1.cell? ⟨W.heap.size,0+1,none⟩=some (.int .i64 0)∧Y1.cell? ⟨W.heap.size,0+2,none⟩=some (.int .i64 0)∧Y1.cell? ⟨W.heap.size,0+3,none⟩=some (.int .i64 0)∧Y1.cell? ⟨W.heap.size,0+4,none⟩=some (.slice none 0 0)∧Y1.cell? ⟨W.heap.size,0+5,none⟩=some (.slice none 0 0):=by
  rw [h1];refine ⟨?_,?_,?_,?_,?_,?_⟩<;>simp
 have b1:Below w.heap.size w Y1:=by rw [h1];exact aB hb (aD _ _)
 rw [←h1];obtain ⟨Y2,h2⟩:∃ X,X=Y1.alloc (.cells #[.slice (some ⟨W.heap.size,0,none⟩) 1 1] 55):=⟨_,rfl⟩;have s2:Y2.heap.size=W.heap.size+2:=by rw [h2];simp;omega
 have c2:Y2.cell? ⟨W.heap.size+1,0,none⟩=some (.slice (some ⟨W.heap.size,0,none⟩) 1 1):=by rw [h2,←s1];simp
 have b2:Below Y1.heap.size Y1 Y2:=by rw [h2];exact aD _ _
 rw [←h2];obtain ⟨Y3,h3⟩:∃ X,X=Y2.alloc (.cells #[.string ⟨#[]⟩,.int .i64 0,.int .i64 0,.int .i64 0,.slice none 0 0,.slice none 0 0,.string ⟨#[97]⟩,.int .i64 0,.int .i64 0,.int .i64 0,.slice none 0 0,.slice none 0 0] 67):=⟨_,rfl⟩;have s3:Y3.heap.size=W.heap.size+3:=by rw [h3];simp;omega
 have c3:(Y3.cell? ⟨W.heap.size+2,0,none⟩=some (.string ⟨#[]⟩)∧Y3.cell? ⟨W.heap.size+2,0+1,none⟩=some (.int .i64 0)∧Y3.cell? ⟨W.heap.size+2,0+2,none⟩=some (.int .i64 0)∧Y3.cell? ⟨W.heap.size+2,0+3,none⟩=some (.int .i64 0)∧Y3.cell? ⟨W.heap.size+2,0+4,none⟩=some (.slice none 0 0)∧Y3.cell? ⟨W.heap.size+2,0+5,none⟩=some (.slice none 0 0))∧Y3.cell? ⟨W.heap.size+2,6,none⟩=some (.string ⟨#[97]⟩)∧Y3.cell? ⟨W.heap.size+2,6+1,none⟩=some (.int .i64 0)∧Y3.cell? ⟨W.heap.size+2,6+2,none⟩=some (.int .i64 0)∧Y3.cell? ⟨W.heap.size+2,6+3,none⟩=some (.int .i64 0)∧Y3.cell? ⟨W.heap.size+2,6+4,none⟩=some (.slice none 0 0)∧Y3.cell? ⟨W.heap.size+2,6+5,none⟩=some (.slice none 0 0):=by
  rw [h3,←s2];refine ⟨⟨?_,?_,?_,?_,?_,?_⟩,?_,?_,?_,?_,?_,?_⟩<;>simp
 have b3:Below Y2.heap.size Y2 Y3:=by rw [h3];exact aD _ _
 rw [←h3];obtain ⟨Y4,h4⟩:∃ X,X=Y3.alloc (.cells #[.slice (some ⟨W.heap.size+2,0,none⟩) 2 2] 55):=⟨_,rfl⟩;have s4:Y4.heap.size=W.heap.size+4:=by rw [h4];simp;omega
 have c4:Y4.cell? ⟨W.heap.size+3,0,none⟩=some (.slice (some ⟨W.heap.size+2,0,none⟩) 2 2):=by rw [h4,←s3];simp
 have b4:Below Y3.heap.size Y3 Y4:=by rw [h4];exact aD _ _
 rw [←h4];have d1:NdIn Y4 W.heap.size 0 nd0 (.slice none 0 0) (.slice none 0 0):=NdIn.below (NdIn.below (NdIn.below (w:=Y1) ⟨c1,⟨lX _ _ _,jU _ _ _⟩,by omega⟩ b2) b3) b4;have d3:NdIn Y4 (W.heap.size+2) 0 nd0 (.slice none 0 0) (.slice none 0 0):=NdIn.below (w:=Y3) ⟨c3.1,⟨lX _ _ _,jU _ _ _⟩,by omega⟩ b4;have d4:NdIn Y4 (W.heap.size+2) 6 nd1 (.slice none 0 0) (.slice none 0 0):=NdIn.below (w:=Y3) ⟨c3.2,⟨lX _ _ _,jU _ _ _⟩,by omega⟩ b4;refine ⟨aB (aB (aB b1 b2) b3) b4,⟨?_,by omega⟩,⟨c4,by omega⟩,d1,?_,?_⟩
 · exact (b4.cell (p:=⟨W.heap.size+1,0,none⟩) (by show W.heap.size+1<_;omega)).trans ((b3.cell (p:=⟨W.heap.size+1,0,none⟩) (by show W.heap.size+1<_;omega)).trans c2)
 · refine ⟨_,1,rfl,Nat.le_refl _,Or.inr ⟨_,0,rfl,by omega,fun i hi=> ?_⟩⟩
   have:i=0:=by simpa using hi
   subst this;exact ⟨_,_,d1⟩
 · refine ⟨_,2,rfl,Nat.le_refl _,Or.inr ⟨_,0,rfl,by omega,fun i hi=> ?_⟩⟩
   have:i=0∨i=1:=by simp at hi;omega
   rcases this with rfl|rfl
   · exact ⟨_,_,d3⟩
   · exact ⟨_,_,d4⟩
theorem sB (us:List Pn) (h:us.Perm (dA [nd0,nd1] 2)):(dq us).length=1:=by
 have hl:us.length=1:=h.length_eq;rw [uY (by omega),hl]
theorem qK {P:Nd→Prop} (h0:P nd0) (h1:P nd1):∀ n ∈ [nd0,nd1],P n:=fun n hn=>by
 rcases List.mem_cons.1 hn with rfl|hn
 · exact h0
 · rw [List.mem_singleton.1 hn];exact h1
set_option maxHeartbeats 1000000 in
theorem vC {w:World} (he:Env w) (hf:FL w):
 Calls Tryz.prog 28 #[] w fun e w'=>e= .returned (.bool true)∧Below w.heap.size w w':=by
 have HNW:Hid (Calls Tryz.prog 9 #[] w fun e w'=>∃ a,e= .returned (.pointer (some a))∧Below w.heap.size w w'):=(yH w).mono fun e w' ⟨h1,h2⟩=>⟨_,h1,by rw [h2];exact aS _ _ _⟩
 have HKL0:=aA (fun W h2=>KL.new w W h2);have HKP:=aA (fun B=>NC w B);have HC1:Hid (∀ B a W,KL w B W→Calls Tryz.prog 26 #[.agg #[.slice (some ⟨B,0,none⟩) 1 1],.pointer (some a),.agg #[.slice none 0 0,.slice none 0 0,.slice none 0 0,.slice none 0 0],.bool true] W fun e w'=>e= .returned (.int .i64 0)∧Below W.heap.size W w'):=fun B a W h=>DA h.2.2.2.1 (Nat.le_refl _) (he.below h.1) (hf.below h.1)
 have HC2:Hid (∀ B a W,KL w B W→Calls Tryz.prog 26 #[.agg #[.slice (some ⟨B+2,0,none⟩) 2 2],.pointer (some a),.agg #[.slice none 0 0,.slice none 0 0,.slice none 0 0,.slice none 0 0],.bool true] W fun e w'=>e= .returned (.int .i64 33)∧Below W.heap.size W w'):=fun B a W h=>xL (G:=[nd0,nd1]) h.2.2.2.2.2 (he.below h.1) (hf.below h.1) KT KV KZ GW (qK (P:=fun n=>∀ e ∈ n.ed,0≤e.to∧e.to<(([nd0,nd1]:List Nd).length:Int)) (fun e he=>by cases he) (fun e he=>by cases he)) (by rw [KX];decide)
 have HC3:Hid (∀ B W,Calls Tryz.prog 26 #[.agg #[.slice (some ⟨B,0,none⟩) 1 1],.pointer none,.agg #[.slice none 0 0,.slice none 0 0,.slice none 0 0,.slice none 0 0],.bool true] W fun e w'=>e= .returned (.int .i64 1)∧Below W.heap.size W w'):=fun B W=>CZ
 have HPN:Hid (∀ B W,KL w B W→Calls Tryz.prog 35 #[.agg #[.slice (some ⟨B+2,0,none⟩) 2 2]] W fun e w'=>∃ ad c,e= .returned (.slice ad 1 c)∧Below W.heap.size W w'):=fun B W h=>by
  refine (GZ (G:=[nd0,nd1]) h.2.2.2.2.2 GW (qK (P:=fun n=>n.nm.size≤281474976710656) (by decide) (by decide)) (by decide) (DG W)).mono ?_;rintro e w' ⟨v,us,rfl,⟨hp,_⟩,ho,hb⟩;obtain ⟨ad,c,rfl⟩:=ho.lenG;exact ⟨ad,c,by rw [sB us hp],hb⟩
 have HSM:Hid (∀ B W,KL w B W→Calls Tryz.prog 38 #[.agg #[.slice (some ⟨B,0,none⟩) 1 1],.agg #[.slice (some ⟨B,0,none⟩) 1 1]] W fun e w'=>e= .returned (.bool true)∧Below W.heap.size W w'):=fun B W h=>by
  have q:=BU h.2.2.2.2.1 h.2.2.2.2.1 (by decide) rY.2;rw [cB rfl] at q;exact q
 clear he hf
 go_enter Tryz.func28,Tryz.ntmps28
 go_wp2_with (first
  |(go_at_call 9;refine HNW.out.mono ?_;rintro e w1 ⟨a,rfl,ok⟩;have HK0:=aA (HKL0.out w1 ok);obtain ⟨_,⟨k1,_⟩,⟨k3,_⟩,_⟩:=HK0.out;clear ok)
  |(have _t:=HK4;go_at_call 38;refine (HSM.out w1.heap.size _ HK4.out).mono ?_;rintro e w6 ⟨rfl,ok⟩;have HK5:=aA (HKP.out _ _ _ HK4.out ok);clear ok)
  |(have _t:=HK3;go_at_call 35;refine (HPN.out w1.heap.size _ HK3.out).mono ?_;rintro e w5 ⟨ad,c,rfl,ok⟩;have HK4:=aA (HKP.out _ _ _ HK3.out ok);obtain ⟨_,⟨k1,_⟩,⟨k3,_⟩,_⟩:=HK4.out;clear ok)
  |(have _t:=HK2;go_at_call 26;refine (HC3.out w1.heap.size _).mono ?_;rintro e w4 ⟨rfl,ok⟩;have HK3:=aA (HKP.out _ _ _ HK2.out ok);obtain ⟨_,⟨k1,_⟩,⟨k3,_⟩,_⟩:=HK3.out;clear ok)
  |(have _t:=HK1;go_at_call 26;refine (HC2.out w1.heap.size a _ HK1.out).mono ?_;rintro e w3 ⟨rfl,ok⟩;have HK2:=aA (HKP.out _ _ _ HK1.out ok);obtain ⟨_,⟨k1,_⟩,⟨k3,_⟩,_⟩:=HK2.out;clear ok)
  |(have _t:=HK0;go_at_call 26;refine (HC1.out w1.heap.size a _ HK0.out).mono ?_;rintro e w2 ⟨rfl,ok⟩;have HK1:=aA (HKP.out _ _ _ HK0.out ok);obtain ⟨_,⟨k1,_⟩,⟨k3,_⟩,_⟩:=HK1.out;clear ok))
 go_ret;exact ⟨rfl,HK5.out.1⟩
end Go.Proofs.YtpfemjlhklnfoaaGreatDoor
