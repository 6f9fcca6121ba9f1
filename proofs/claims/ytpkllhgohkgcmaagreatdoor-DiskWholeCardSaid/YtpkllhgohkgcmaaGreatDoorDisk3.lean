/- The walks of fileFault, Read and writeFault: of a disk in memory, each answers as the plain function says and leaves old memory as it was. -/
import Derived.Test.YtpkllhgohkgcmaaGreatDoorDisk2
namespace Go.Proofs.YtpkllhgohkgcmaaGreatDoor
open Go.RowKit Go.Maps Go.WideMaps Go.WideElems
set_option maxRecDepth 100000

/-- Why no file can come to stand at a path. -/
def fileD (D : DataW Unit) (s : ByteArray) : Int := if (parentD D s != 0) = true then parentD D s else if (kindD D s == 2) = true then 13 else 0

theorem okPath_size {s : ByteArray} (h : okPath s = true) : s.size ≤ maxLen := by
  have := (okPath_parts h).1; unfold maxLen; omega

set_option maxHeartbeats 400000 in
theorem fileFault_any {B : Nat} {w : World} {d mb n : Nat} {rv : Value} {x : Ab} (h : IsDisk B w d mb n rv x) (s : ByteArray) (hs : okPath s = true) :
    Calls Tryz.prog 60 #[.pointer (some ⟨d, 0, none⟩), .string s] w fun e w' => e = .returned (.int .i64 (fileD x.D s)) ∧ Below w.heap.size w w' := by
  have hp := parentFault_any h s hs
  have hk : ∀ w1, Below w.heap.size w w1 → Calls Tryz.prog 20 #[.pointer (some ⟨d, 0, none⟩), .string s] w1 fun e w' => e = .returned (.int .i64 (kindD x.D s)) ∧ Below w1.heap.size w1 w' :=
    fun w1 hb => Kind_any (h.below hb) s (okPath_size hs)
  have HK : Hid (∀ w1, Below w.heap.size w w1 → Calls Tryz.prog 20 #[.pointer (some ⟨d, 0, none⟩), .string s] w1 fun e w' => e = .returned (.int .i64 (kindD x.D s)) ∧ Below w1.heap.size w1 w') := hk
  have HP : Hid (fileD x.D s = if (parentD x.D s != 0) = true then parentD x.D s else if (kindD x.D s == 2) = true then 13 else 0) := by unfold Hid fileD; rfl
  clear hk h hs
  generalize kindD x.D s = k at *
  generalize parentD x.D s = p at *
  by_cases h0 : (p != 0) = true
  · go_enter Tryz.func60, Tryz.ntmps60
    go_wp2_with (go_at_call 42; refine hp.mono ?_; rintro e w' ⟨rfl, hb⟩)
    go_ret
    exact ⟨ret_int (by rw [HP.out, if_pos h0]), hb⟩
  · rw [Bool.not_eq_true] at h0
    by_cases h1 : (k == 2) = true
    · go_enter Tryz.func60, Tryz.ntmps60
      go_wp2_with (first
        | (go_at_call 42; refine hp.mono ?_; rintro e w1 ⟨rfl, hb⟩)
        | (go_at_call 20; refine (HK.out _ hb).mono ?_; rintro e w' ⟨rfl, hb2⟩))
      go_ret
      exact ⟨ret_int (by rw [HP.out, if_neg (by rw [h0]; decide), if_pos h1]), hb.trans (hb2.mono hb.size)⟩
    · rw [Bool.not_eq_true] at h1
      go_enter Tryz.func60, Tryz.ntmps60
      go_wp2_with (first
        | (go_at_call 42; refine hp.mono ?_; rintro e w1 ⟨rfl, hb⟩)
        | (go_at_call 20; refine (HK.out _ hb).mono ?_; rintro e w' ⟨rfl, hb2⟩))
      go_ret
      exact ⟨ret_int (by rw [HP.out, if_neg (by rw [h0]; decide), if_neg (by rw [h1]; decide)]), hb.trans (hb2.mono hb.size)⟩

/-- The look-up without 'ok', the item written out. -/
theorem lookup_bare {P : Program} (w : World) {ops : Array Oper} {rest : List Oper} {o : Oper} {a : Act} {Q : Exit → Act → World → Prop} (hg : o.guard = none) (m x : Operand) (t : TypeId) (hop : o.op = Op.lookup t m x false)
    (k e : TypeId) (K : Keyed P k) (ht : P.underlying t = some (.map k e)) (hz : (zeroValue e).run P w = .ok (.agg #[.bool false, .string ByteArray.empty]) w) (b n : Nat) (D : DataW Unit)
    (hm : a.eval m = .map (some b)) (hown : w.ownsMap P k itemR b n D) (key : Value) (kl : Lit) (hx : a.eval x = key) (hkey : keyOf P k key = some kl)
    (hK : ∀ (c : Bool) (s : ByteArray), D.atKey kl zeroD = itemD c s → s.size ≤ maxLen → wpList P ops Q rest (a.put o.dst (.agg #[.bool c, .string s])) w) :
    wpList P ops Q (o :: rest) a w := by
  refine wpList_plain hg fun K' hK' => ?_
  obtain ⟨v, ps, hrun, hv⟩ := hown.lookup K ht hz (zd := zeroD) (zp := []) (itemR_mk (by decide)) hkey
  obtain ⟨c, s, rfl, h2, h3⟩ := itemR_inv hv
  unfold Oper.wp
  simp [execOp, hop, hm, hx, hrun, Result.andThen]
  exact hK' _ _ (hK c s (congrArg Prod.fst h2) h3)

/-- What Read answers: its error, and the bytes. -/
def readE (D : DataW Unit) (s : ByteArray) : Int := if pathB s = true then (if (kindD D s == 0) = true then 12 else if (kindD D s == 2) = true then 13 else 0) else 10
def readT (D : DataW Unit) (s : ByteArray) : ByteArray := if (readE D s == 0) = true then ⟨(itData (D.atKey (keyD s) zeroD)).toArray⟩ else ByteArray.empty

theorem fieldData (w : World) (c : Bool) (t : ByteArray) : (Instr.field 66 (.agg #[.bool c, .string t]) 1).run Tryz.prog w = .ok (.string t) w := by kernel_rfl

theorem bytes_mk (t : ByteArray) : (⟨t.data.toList.toArray⟩ : ByteArray) = t := by cases t; simp

theorem ret_read {s t : ByteArray} {a b : Int} (h : s = t) (k : a = b) : Ending.returned (.tuple #[.string s, .int .i64 a]) = .returned (.tuple #[.string t, .int .i64 b]) := by rw [h, k]

set_option maxHeartbeats 400000 in
theorem Read_any {B : Nat} {w : World} {d mb n : Nat} {rv : Value} {x : Ab} (h : IsDisk B w d mb n rv x) (s : ByteArray) (m : Int) (hm : w.cell? ⟨0, 0, none⟩ = some (.int .i64 m)) (hs : s.size ≤ maxLen) :
    Calls Tryz.prog 25 #[.pointer (some ⟨d, 0, none⟩), .string s] w fun e w' => e = .returned (.tuple #[.string (readT x.D s), .int .i64 (readE x.D s)]) ∧ Below w.heap.size w w' := by
  have hp := isPath_any s m w hm
  have HK : Hid (∀ w1, Below w.heap.size w w1 → Calls Tryz.prog 20 #[.pointer (some ⟨d, 0, none⟩), .string s] w1 fun e w' => e = .returned (.int .i64 (kindD x.D s)) ∧ Below w1.heap.size w1 w') :=
    fun w1 hb => Kind_any (h.below hb) s hs
  have HD : Hid (IsDisk B w d mb n rv x) := h
  have HKY : Hid (keyOf Tryz.prog 9 (.string s) = some (keyD s)) := keyOf_str hs
  clear h hs hm
  by_cases h0 : pathB s = true
  · by_cases h1 : (kindD x.D s == 0) = true
    · have HE : Hid (readE x.D s = 12) := by unfold Hid readE; rw [if_pos h0, if_pos h1]
      have HT : Hid (readT x.D s = ByteArray.empty) := by unfold Hid readT; rw [HE.out]; rfl
      generalize kindD x.D s = k at *
      go_enter Tryz.func25, Tryz.ntmps25
      go_wp2_with (first
        | (go_at_call 52; refine hp.mono ?_; rintro e w1 ⟨rfl, hb⟩)
        | (go_at_call 20; refine (HK.out _ hb).mono ?_; rintro e w' ⟨rfl, hb2⟩))
      go_ret2
      exact ⟨ret_read HT.out.symm HE.out.symm, hb.trans (hb2.mono hb.size)⟩
    · rw [Bool.not_eq_true] at h1
      by_cases h2 : (kindD x.D s == 2) = true
      · have HE : Hid (readE x.D s = 13) := by unfold Hid readE; rw [if_pos h0, if_neg (by rw [h1]; decide), if_pos h2]
        have HT : Hid (readT x.D s = ByteArray.empty) := by unfold Hid readT; rw [HE.out]; rfl
        generalize kindD x.D s = k at *
        go_enter Tryz.func25, Tryz.ntmps25
        go_wp2_with (first
          | (go_at_call 52; refine hp.mono ?_; rintro e w1 ⟨rfl, hb⟩)
          | (go_at_call 20; refine (HK.out _ hb).mono ?_; rintro e w' ⟨rfl, hb2⟩))
        go_ret2
        exact ⟨ret_read HT.out.symm HE.out.symm, hb.trans (hb2.mono hb.size)⟩
      · rw [Bool.not_eq_true] at h2
        have HE : Hid (readE x.D s = 0) := by unfold Hid readE; rw [if_pos h0, if_neg (by rw [h1]; decide), if_neg (by rw [h2]; decide)]
        have HT : Hid (readT x.D s = ⟨(itData (x.D.atKey (keyD s) zeroD)).toArray⟩) := by unfold Hid readT; rw [HE.out]; rfl
        generalize kindD x.D s = k at *
        have hfd := fieldData
        go_enter Tryz.func25, Tryz.ntmps25
        go_wp2_with (first
          | (go_at_call 52; refine hp.mono ?_; rintro e w1 ⟨rfl, hb⟩)
          | (go_at_call 20; refine (HK.out _ hb).mono ?_; rintro e w2 ⟨rfl, hb2⟩; have c0 := (HD.out.below (hb.trans (hb2.mono hb.size))).c0)
          | (at_lookup; refine lookup_bare _ rfl _ _ 57 rfl 9 66 keyed Tryz.underlying57 (zeroItem _) mb n x.D rfl (HD.out.below (hb.trans (hb2.mono hb.size))).own _ _ rfl HKY.out ?_; intro c t hat hts; have HA : Hid (x.D.atKey (keyD s) zeroD = itemD c t) := hat; clear hat hts))
        go_ret2
        exact ⟨ret_read (by rw [HT.out, HA.out, itData_mk, bytes_mk]) HE.out.symm, hb.trans (hb2.mono hb.size)⟩
  · rw [Bool.not_eq_true] at h0
    have HE : Hid (readE x.D s = 10) := by unfold Hid readE; rw [if_neg (by rw [h0]; decide)]
    have HT : Hid (readT x.D s = ByteArray.empty) := by unfold Hid readT; rw [HE.out]; rfl
    go_enter Tryz.func25, Tryz.ntmps25
    go_wp2_with (go_at_call 52; refine hp.mono ?_; rintro e w1 ⟨rfl, hb⟩)
    go_ret2
    exact ⟨ret_read HT.out.symm HE.out.symm, hb⟩

end Go.Proofs.YtpkllhgohkgcmaaGreatDoor
