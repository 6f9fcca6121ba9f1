/- The walk of DiskCut: of any row of deeds in memory and any number it answers true, and leaves old memory as it was. -/
import Derived.Test.YtlhoikmgeafgbaaDoorCut2
namespace Go.Proofs.YtlhoikmgeafgbaaDoor
open Go.RowKit Go.Maps Go.WideMaps Go.WideElems
set_option maxRecDepth 100000

def wNew (w : World) : World := (w.alloc (.map #[] 0)).alloc (.cells #[.map (some w.heap.size), .slice none 0 0, .int .i64 (-1)] 42)

theorem New_any (w : World) : Calls Tryd.prog 4 #[] w fun e w' => e = .returned (.pointer (some ⟨w.heap.size + 1, 0, none⟩)) ∧ w' = wNew w := New_walk w

theorem size_wNew (w : World) : (wNew w).heap.size = w.heap.size + 2 := by simp [wNew]

theorem start_both (w : World) (m : Int) (hm : w.cell? ⟨0, 0, none⟩ = some (.int .i64 m)) (p : Int) (hp0 : 0 ≤ p) (hp1 : p < 40) :
    Both w.heap.size ((wNew (wNew w)).setCell ⟨w.heap.size + 1, 2, none⟩ (.int .i64 p)) (w.heap.size + 1) w.heap.size (w.heap.size + 2 + 1) (w.heap.size + 2) p m 0 w := by
  have h0 : 0 < w.heap.size := cell_lt hm
  have fa : Fit w.heap.size (wNew w) (w.heap.size + 1) w.heap.size 0 (.slice none 0 0) newAb m := new_fit hm (Nat.le_refl _)
  have hb1 : Below w.heap.size w (wNew w) := new_below w
  have hb2 : Below (wNew w).heap.size (wNew w) (wNew (wNew w)) := new_below (wNew w)
  have fa2 := fa.below hb2
  have fb : Fit w.heap.size (wNew (wNew w)) (w.heap.size + 2 + 1) (w.heap.size + 2) 0 (.slice none 0 0) newAb m := by
    have t : Fit w.heap.size (wNew (wNew w)) ((wNew w).heap.size + 1) (wNew w).heap.size 0 (.slice none 0 0) newAb m := new_fit (w := wNew w) fa.max (B := w.heap.size) (by rw [size_wNew]; omega)
    rw [size_wNew w] at t
    exact t
  have hu := Upd.setCell (wNew (wNew w)) ⟨w.heap.size + 1, 2, none⟩ (.int .i64 p)
  have hbs : Below w.heap.size (wNew (wNew w)) ((wNew (wNew w)).setCell ⟨w.heap.size + 1, 2, none⟩ (.int .i64 p)) := (Below.refl _ _).setCell (by simp only; omega) _
  refine ⟨⟨0, 0, .slice none 0 0, .slice none 0 0, { D := newAb.D, rs := newAb.rs, left := p }, newAb, ?_, ?_, ?_, rfl, rfl, rfl, ?_, ?_, Nat.le_refl _, Nat.le_refl _⟩, ?_⟩
  · exact { disk := fa2.disk.setLeft p, max := by rw [hbs.cell (p := ⟨0, 0, none⟩) h0]; exact fa2.max, room := by decide, len := by show (0 : Nat) < _; decide, lo := by simp only; omega, hi := by simp only; omega, base := Nat.le_trans fa2.base hbs.size }
  · exact fit_upd fb hu (fun k hk e => by
      rcases hk with rfl | rfl | hk
      · simp only at e; omega
      · simp only at e; omega
      · cases hk) hbs h0
  · intro j hj hf
    rcases hj with rfl | rfl | hj
    · rcases hf with e | e | e
      · omega
      · omega
      · cases e
    · rcases hf with e | e | e
      · omega
      · omega
      · cases e
    · cases hj
  · simp [newAb]
  · simp [newAb]; omega
  · exact (hb1.trans (hb2.mono (by rw [size_wNew]; omega))).trans hbs

theorem below_draws {B : Nat} {a w : World} (h : Below B a w) (n : Nat) : Below B a (w.drewN n) := ⟨h.os, h.tape, h.output, h.size, h.block⟩

/-- The path of the journal. -/
def txJ : ByteArray := ⟨#[47, 106, 111, 117, 114, 110, 97, 108]⟩

theorem mkdir_a {B : Nat} {w : World} {d mb n d2 mb2 n2 : Nat} {rv rv2 : Value} {x : Ab} {m : Int} (h0 : 0 < B) (h : Fit B w d mb n rv x m) (h2 : Fit B w d2 mb2 n2 rv2 x m) (hd : ∀ j, Foot d mb rv j → ¬ Foot d2 mb2 rv2 j) :
    Calls Tryd.prog 14 #[.pointer (some ⟨d, 0, none⟩), .string ⟨#[47, 106, 111, 117, 114, 110, 97, 108]⟩] w fun e w' => e = .returned (.int .i64 (mkdirD x txJ).1) ∧ Fit B w' d2 mb2 n2 rv2 x m ∧ Below B w w' := by
  refine (Mkdir_any h txJ).mono ?_
  rintro e w' ⟨rfl, n', rv', _, _, hu, _⟩
  have hb := hu.below h.base (foot_low h.disk)
  exact ⟨rfl, fit_upd h2 hu (fun j hj hf => hd j hf hj) hb h0, hb⟩

theorem mkdir_b {B : Nat} {w : World} {d mb n : Nat} {rv : Value} {x : Ab} {m : Int} (h : Fit B w d mb n rv x m) :
    Calls Tryd.prog 14 #[.pointer (some ⟨d, 0, none⟩), .string ⟨#[47, 106, 111, 117, 114, 110, 97, 108]⟩] w fun e w' => e = .returned (.int .i64 (mkdirD x txJ).1) ∧ Below B w w' := by
  refine (Mkdir_any h txJ).mono ?_
  rintro e w' ⟨rfl, n', rv', _, _, hu, _⟩
  exact ⟨rfl, hu.below h.base (foot_low h.disk)⟩

/-- The power comes back: both disks are the same now. -/
theorem up_fit {B : Nat} {w : World} {d mb n d2 mb2 n2 : Nat} {rv rv2 : Value} {x x2 : Ab} {m : Int} (h0 : 0 < B) (h : Fit B w d mb n rv x m) (h2 : Fit B w d2 mb2 n2 rv2 x2 m) (hd : ∀ j, Foot d mb rv j → ¬ Foot d2 mb2 rv2 j) (he : ({ D := x.D, rs := x.rs, left := -1 } : Ab) = x2) :
    Fit B (w.setCell ⟨d, 2, none⟩ (.int .i64 (-1))) d mb n rv x2 m ∧ Fit B (w.setCell ⟨d, 2, none⟩ (.int .i64 (-1))) d2 mb2 n2 rv2 x2 m ∧ Below B w (w.setCell ⟨d, 2, none⟩ (.int .i64 (-1))) := by
  have hb : Below B w (w.setCell ⟨d, 2, none⟩ (.int .i64 (-1))) := (Below.refl _ _).setCell h.disk.bd _
  refine ⟨?_, fit_upd h2 (Upd.setCell w ⟨d, 2, none⟩ (.int .i64 (-1))) (fun j hj e => hd d (Or.inl rfl) (by rw [← show j = d from e]; exact hj)) hb h0, hb⟩
  rw [← he]
  exact { disk := h.disk.setLeft (-1), max := by rw [hb.cell (p := ⟨0, 0, none⟩) h0]; exact h.max, room := h.room, len := h.len, lo := by simp only; omega, hi := by simp only; omega, base := Nat.le_trans h.base hb.size }

theorem hide2 {p : Prop} (h : p) : Hid p := h

set_option maxHeartbeats 2000000 in
theorem cut_walk (w : World) (m : Int) (hm : w.cell? ⟨0, 0, none⟩ = some (.int .i64 m)) (g off len cap : Nat) (c : Int) (hlen : len * 64 ≤ 140737488351232) (hg : g < w.heap.size) (hl : ∀ i, i < len → DeedAt w g (off + i * 5)) (hc0 : -9223372036854775808 ≤ c) (hc1 : c ≤ 9223372036854775807) :
    Calls Tryd.prog 3 #[.slice (some ⟨g, off, none⟩) len cap, .int .i64 c] w fun e w' => e = .returned (.bool true) ∧ Below w.heap.size w w' := by
  have h0 : 0 < w.heap.size := cell_lt hm
  have hpk := fun W => pick_any c 40 W hc0 hc1 (by decide) (by decide)
  obtain ⟨p0, p1⟩ := pickD_bd c 40 (by decide)
  have HPK : Hid (∀ W, Calls Tryd.prog 5 #[.int .i64 c, .int .i64 40] W fun e w' => e = .returned (.int .i64 (pickD c 40)) ∧ w' = W) := hpk
  clear hpk
  generalize pickD c 40 = p at *
  have HBO : Hid (Both w.heap.size ((wNew (wNew w)).setCell ⟨w.heap.size + 1, 2, none⟩ (.int .i64 p)) (w.heap.size + 1) w.heap.size (w.heap.size + 2 + 1) (w.heap.size + 2) p m 0 w) := start_both w m hm p p0 p1
  have HCT : Hid (Calls Tryd.prog 6 #[.pointer (some ⟨w.heap.size + 1, 0, none⟩), .int .i64 p] (wNew (wNew w)) fun e w' => e = .returned (.int .i64 0) ∧ w' = (wNew (wNew w)).setCell ⟨w.heap.size + 1, 2, none⟩ (.int .i64 p)) :=
    Cut_any ((new_is (B := w.heap.size) (Nat.le_refl _)).below (new_below (wNew w))) p rfl p0
  have HL : Hid (∀ i, i < len → DeedAt w g (off + i * 5)) := hl
  have hsz := size_wNew w
  clear hl hm hc0 hc1
  go_enter Tryd.func3, Tryd.ntmps3
  go_wp2_with (first
    | (go_at_call 4; refine (New_any _).mono ?_; rintro e w1 ⟨rfl, rfl⟩)
    | (go_at_call 5; refine (HPK.out _).mono ?_; rintro e w1 ⟨rfl, rfl⟩)
    | (go_at_call 6; refine HCT.out.mono ?_; rintro e w1 ⟨rfl, rfl⟩))
  go_loopw [7] (fun i wr => ∃ k : Nat, k ≤ len ∧ i = .int .i64 k ∧ Both w.heap.size wr (w.heap.size + 1) w.heap.size (w.heap.size + 2 + 1) (w.heap.size + 2) p m k w) (fun i _ => len - (intOf i).toNat)
  case atStart => exact ⟨0, Nat.zero_le _, rfl, HBO.out⟩
  case round =>
    obtain ⟨k, hk, rfl, hbo⟩ := hrel
    obtain ⟨na, nb, rva, rvb, xa, xb, fa, fb, hdj, hD, hrs, hlb, hla, hle, hna, hnb⟩ := hbo.ex
    have hold := hbo.old
    clear hbo HBO HCT
    by_cases hlt : k < len
    · obtain ⟨dk, dp, dt, du, dz, q0, q1, q2, q3, q4, k0, k1, zp, zt, zu, _, _⟩ := (HL.out k hlt).below hold hg
      have HPD : Hid (∀ W, Calls Tryd.prog 5 #[.int .i64 dk, .int .i64 4] W fun e w' => e = .returned (.int .i64 (pickD dk 4)) ∧ w' = W) := fun W => pick_any dk 4 W k0 k1 (by decide) (by decide)
      generalize pickD dk 4 = kd at *
      have HFA : Hid (Fit w.heap.size wr (w.heap.size + 1) w.heap.size na rva xa m) := fa
      have HFB : Hid (Fit w.heap.size wr (w.heap.size + 2 + 1) (w.heap.size + 2) nb rvb xb m) := fb
      have HDJ : Hid (∀ j, Foot (w.heap.size + 1) w.heap.size rva j → ¬ Foot (w.heap.size + 2 + 1) (w.heap.size + 2) rvb j) := hdj
      have HD : Hid (xa.D = xb.D) := hD
      have HRS : Hid (xa.rs = xb.rs) := hrs
      have HLB : Hid (xb.left = -1) := hlb
      have HLA : Hid (xa.left = p - xb.rs.length) := hla
      have HU : Hid (du.size ≤ maxLen) := zu
      clear fa fb hdj hD hrs hlb hla zp zt zu k0 k1 HL
      have hbx := alloc_below wr (.cells #[.int .i64 kd, .string dp, .string dt, .string du, .int .i64 dz] 29)
      have HBX : Hid (Below wr.heap.size wr (wr.alloc (.cells #[.int .i64 kd, .string dp, .string dt, .string du, .int .i64 dz] 29))) := hbx
      have hlen2 : xb.rs.length ≤ 2199023255552 := by omega
      have HOL : Hid (Below w.heap.size w wr) := hold
      clear hbx hold
      by_cases hfull : (xb.rs.length : Int) = p
      · have hxa0 : xa.left = 0 := by rw [HLA.out]; omega
        have hA := asked_step h0 (HFA.out.below HBX.out) (HFB.out.below HBX.out) HDJ.out kd dp dt du dz HU.out (by omega) (by rw [ask_down hxa0]; show xa.rs.length < _; rw [HRS.out]; omega) (by rw [ask_down hxa0]; show -1 ≤ xa.left; omega) (by rw [ask_down hxa0]; show xa.left ≤ _; omega)
        rw [ask_down hxa0] at hA
        have HA : Hid (Calls Tryd.prog 7 #[.pointer (some ⟨w.heap.size + 1, 0, none⟩), .agg #[.int .i64 kd, .string dp, .string dt, .string du, .int .i64 dz]] (wr.alloc (.cells #[.int .i64 kd, .string dp, .string dt, .string du, .int .i64 dz] 29)) fun e w' => e = .returned (.int .i64 15) ∧
            ∃ n' rv', n' ≤ na + 1 ∧ Fit w.heap.size w' (w.heap.size + 1) w.heap.size n' rv' xa m ∧ Fit w.heap.size w' (w.heap.size + 2 + 1) (w.heap.size + 2) nb rvb xb m ∧ (∀ j, Foot (w.heap.size + 1) w.heap.size rv' j → ¬ Foot (w.heap.size + 2 + 1) (w.heap.size + 2) rvb j) ∧ Below w.heap.size (wr.alloc (.cells #[.int .i64 kd, .string dp, .string dt, .string du, .int .i64 dz] 29)) w') :=
          hA.mono (by rintro e w' ⟨rfl, n', rv', r1, r2, r3, r4, r5, _⟩; exact ⟨rfl, n', rv', r1, r2, r3, r4, r5⟩)
        have hfl : ((xb.rs.length : Int) == p) = true := beq_iff_eq.2 hfull
        have hd0 : (xa.left == 0) = true := beq_iff_eq.2 hxa0
        have HLE := hide2 hle
        clear hA hfull hxa0 hle
        go_wp2_with (first
          | (go_at_call 5; refine (HPD.out _).mono ?_; rintro e w1 ⟨rfl, rfl⟩)
          | (go_at_call 7; refine HA.out.mono ?_; rintro e w2 ⟨rfl, n2, rv2, hn2, f2, g2, dj2, hb2⟩; have F2 : Hid (Fit w.heap.size w2 (w.heap.size + 1) w.heap.size n2 rv2 xa m) := f2; have G2 : Hid (Fit w.heap.size w2 (w.heap.size + 2 + 1) (w.heap.size + 2) nb rvb xb m) := g2; have DJ2 : Hid (∀ j, Foot (w.heap.size + 1) w.heap.size rv2 j → ¬ Foot (w.heap.size + 2 + 1) (w.heap.size + 2) rvb j) := dj2; have HB2 := hide2 hb2; clear f2 g2 dj2 hb2)
          | (go_at_call 8; refine (Raws_any G2.out.disk hlen2).mono ?_; rintro e w3 ⟨ao, cp, rfl, _, hb3⟩)
          | (go_at_call 9; refine (Down_any (F2.out.below hb3).disk).mono ?_; rintro e w4 ⟨rfl, rfl⟩)
          | fail)
        have o1 := HOL.out.trans (HBX.out.mono HOL.out.size)
        have o2 := o1.trans HB2.out
        refine ⟨⟨k + 1, by omega, by go_num, ⟨⟨n2, nb, rv2, rvb, xa, xb, F2.out.below hb3, G2.out.below hb3, DJ2.out, HD.out, HRS.out, HLB.out, HLA.out, HLE.out, by omega, by omega⟩, o2.trans (hb3.mono o2.size)⟩⟩, by simp [intOf]; omega⟩
      · have hpos : 0 < xa.left := by rw [HLA.out]; omega
        obtain ⟨e1, e2, e3, e4, e5⟩ := ask_alike HD.out HRS.out hpos HLB.out kd dp dt du
        have hbl : (askD xb kd dp dt du).2.rs.length ≤ xb.rs.length + 1 := by
          rcases e5 with ⟨_, e5⟩ | ⟨_, e5⟩
          · rw [e5]; omega
          · omega
        have hll := HLA.out
        have hA := asked_step h0 (HFA.out.below HBX.out) (HFB.out.below HBX.out) HDJ.out kd dp dt du dz HU.out (by omega) (by rw [e3]; omega) (by rcases e5 with ⟨e5, _⟩ | ⟨e5, _⟩ <;> omega) (by rcases e5 with ⟨e5, _⟩ | ⟨e5, _⟩ <;> omega)
        have HB : Hid (∀ w2 n2 rv2, n2 ≤ na + 1 → Fit w.heap.size w2 (w.heap.size + 1) w.heap.size n2 rv2 (askD xa kd dp dt du).2 m → Fit w.heap.size w2 (w.heap.size + 2 + 1) (w.heap.size + 2) nb rvb xb m → (∀ j, Foot (w.heap.size + 1) w.heap.size rv2 j → ¬ Foot (w.heap.size + 2 + 1) (w.heap.size + 2) rvb j) →
            Calls Tryd.prog 7 #[.pointer (some ⟨w.heap.size + 2 + 1, 0, none⟩), .agg #[.int .i64 kd, .string dp, .string dt, .string du, .int .i64 dz]] w2 fun e w' => e = .returned (.int .i64 (askD xa kd dp dt du).1) ∧ Both w.heap.size w' (w.heap.size + 1) w.heap.size (w.heap.size + 2 + 1) (w.heap.size + 2) p m (k + 1) w2) := by
          intro w2 n2 rv2 hn2 f2 g2 dj2
          refine (asked_step h0 g2 f2 (fun j hj hf => dj2 j hf hj) kd dp dt du dz HU.out (by omega) (by omega) (by omega) (by omega)).mono ?_
          rintro e w' ⟨rfl, n', rv', r1, r2, r3, r4, r5, _⟩
          refine ⟨by rw [e1], ⟨⟨n2, n', rv2, rv', (askD xa kd dp dt du).2, (askD xb kd dp dt du).2, r3, r2, fun j hj hf => r4 j hf hj, e2, e3, e4, ?_, ?_, by omega, by omega⟩, r5⟩⟩
          · rcases e5 with ⟨e5, e6⟩ | ⟨e5, e6⟩
            · rw [e5, e6, HLA.out]
            · rw [e5, HLA.out, e6]; omega
          · rcases e5 with ⟨_, e6⟩ | ⟨_, e6⟩
            · rw [e6]; exact hle
            · omega
        have hfl : ((xb.rs.length : Int) == p) = false := beq_eq_false_iff_ne.2 hfull
        have HA := hide2 hA
        have hrw : ∀ w2, (∀ b, b < (wr.alloc (.cells #[.int .i64 kd, .string dp, .string dt, .string du, .int .i64 dz] 29)).heap.size → ¬ Foot (w.heap.size + 1) w.heap.size rva b → w2.heap[b]? = (wr.alloc (.cells #[.int .i64 kd, .string dp, .string dt, .string du, .int .i64 dz] 29)).heap[b]?) →
            ∀ w3, Below w2.heap.size w2 w3 → wr.heap.size < w2.heap.size → w3.cell? ⟨wr.heap.size, 0, none⟩ = some (.int .i64 kd) ∧ w3.cell? ⟨wr.heap.size, 1, none⟩ = some (.string dp) ∧ w3.cell? ⟨wr.heap.size, 2, none⟩ = some (.string dt) ∧ w3.cell? ⟨wr.heap.size, 3, none⟩ = some (.string du) ∧ w3.cell? ⟨wr.heap.size, 4, none⟩ = some (.int .i64 dz) := by
          intro w2 hw w3 hb3 hlt2
          have hnf : ¬ Foot (w.heap.size + 1) w.heap.size rva wr.heap.size := fun hf => by have := (HFA.out.disk.foot_lt hf).1; omega
          have hq : ∀ i, w3.cell? ⟨wr.heap.size, i, none⟩ = (#[Value.int .i64 kd, .string dp, .string dt, .string du, .int .i64 dz])[i]? := by
            intro i
            rw [hb3.cell (p := ⟨wr.heap.size, i, none⟩) hlt2, World.cell?_of_block (w := wr.alloc (.cells #[.int .i64 kd, .string dp, .string dt, .string du, .int .i64 dz] 29)) (hw wr.heap.size (by simp) hnf), World.cell?_alloc_new]
          refine ⟨?_, ?_, ?_, ?_, ?_⟩ <;> rw [hq] <;> rfl
        have HRW := hide2 hrw
        generalize (askD xa kd dp dt du).1 = r1 at *
        generalize (askD xa kd dp dt du).2 = xa2 at *
        clear hA hfull hpos hle hrw e1 e2 e3 e4 e5 hbl hll
        go_wp2_with (first
          | (go_at_call 5; refine (HPD.out _).mono ?_; rintro e w1 ⟨rfl, rfl⟩)
          | (go_at_call_of 7 (Value.pointer (some { block := w.heap.size + 1, off := 0 })); refine HA.out.mono ?_; rintro e w2 ⟨rfl, n2, rv2, hn2, f2, g2, dj2, hb2, hw2⟩; have F2 := hide2 f2; have G2 := hide2 g2; have DJ2 := hide2 dj2; have HB2 := hide2 hb2; have HW2 := hide2 hw2; clear f2 g2 dj2 hb2 hw2)
          | (go_at_call 8; refine (Raws_any G2.out.disk hlen2).mono ?_; rintro e w3 ⟨ao, cp, rfl, _, hb3⟩; obtain ⟨b0, b1, b2, b3, b4⟩ := HRW.out w2 HW2.out w3 hb3 (by have := HB2.out.size; simp at this; omega))
          | (go_at_call_of 7 (Value.pointer (some { block := w.heap.size + 2 + 1, off := 0 })); refine (HB.out w3 n2 rv2 hn2 (F2.out.below hb3) (G2.out.below hb3) DJ2.out).mono ?_; rintro e w4 ⟨rfl, hbo4⟩)
          | fail)
        have o1 := HOL.out.trans (HBX.out.mono HOL.out.size)
        have o2 := o1.trans HB2.out
        exact ⟨⟨k + 1, by omega, by go_num, ⟨hbo4.ex, (o2.trans (hb3.mono o2.size)).trans hbo4.old⟩⟩, by simp [intOf]; omega⟩
    · have HFA := hide2 fa
      have HFB := hide2 fb
      have HOL := hide2 hold
      have HE : Hid (({ D := xa.D, rs := xa.rs, left := -1 } : Ab) = xb) := by
        unfold Hid; cases xb; simp only at hD hrs hlb; rw [hD, hrs, hlb]
      have hAa : Calls Tryd.prog 11 #[.pointer (some ⟨w.heap.size + 1, 0, none⟩)] wr fun e w' => ∃ ao cap, e = .returned (.slice ao (filesD xb.D).length cap) ∧ w'.ownsRow wr.heap.size 48 3 (.slice ao (filesD xb.D).length cap) (filesD xb.D).length (fileCells (filesD xb.D)) ∧ Below wr.heap.size wr w' := by
        have := All_any fa.disk (by omega)
        rw [hD] at this; exact this
      have HAb : Hid (∀ w2, Below wr.heap.size wr w2 → Calls Tryd.prog 11 #[.pointer (some ⟨w.heap.size + 2 + 1, 0, none⟩)] w2 fun e w' => ∃ ao cap, e = .returned (.slice ao (filesD xb.D).length cap) ∧ w'.ownsRow w2.heap.size 48 3 (.slice ao (filesD xb.D).length cap) (filesD xb.D).length (fileCells (filesD xb.D)) ∧ Below w2.heap.size w2 w') :=
        fun w2 hb => All_any (fb.below hb).disk (by omega)
      have HRa : Hid (∀ w2, Below wr.heap.size wr w2 → Calls Tryd.prog 8 #[.pointer (some ⟨w.heap.size + 1, 0, none⟩)] w2 fun e w' => ∃ ao cap, e = .returned (.slice ao xb.rs.length cap) ∧ w'.ownsRow w2.heap.size 46 3 (.slice ao xb.rs.length cap) xb.rs.length (rawCells xb.rs) ∧ Below w2.heap.size w2 w') := by
        intro w2 hb
        have := Raws_any (fa.below hb).disk (by rw [hrs]; omega)
        rw [hrs] at this; exact this
      have HRb : Hid (∀ w2, Below wr.heap.size wr w2 → Calls Tryd.prog 8 #[.pointer (some ⟨w.heap.size + 2 + 1, 0, none⟩)] w2 fun e w' => ∃ ao cap, e = .returned (.slice ao xb.rs.length cap) ∧ w'.ownsRow w2.heap.size 46 3 (.slice ao xb.rs.length cap) xb.rs.length (rawCells xb.rs) ∧ Below w2.heap.size w2 w') :=
        fun w2 hb => Raws_any (fb.below hb).disk (by omega)
      have hfl : (filesD xb.D).length ≤ 2199023255552 := by
        have := (files_facts fb.disk.own).2.1; omega
      have hrl : xb.rs.length ≤ 2199023255552 := by omega
      have hd1 : (xb.left == 0) = false := by rw [hlb]; rfl
      have HHF := hide2 hfl
      have HHR := hide2 hrl
      clear fa fb hD hrs hlb hla hle hold HL HPK hfl hrl
      go_wp2_with (first
        | (go_at_call_of 11 (Value.pointer (some { block := w.heap.size + 1, off := 0 })); refine hAa.mono ?_; rintro e w2 ⟨ao2, cp2, rfl, hr2, hb2⟩; have HR2 := hide2 hr2; clear hr2)
        | (go_at_call_of 11 (Value.pointer (some { block := w.heap.size + 2 + 1, off := 0 })); refine (HAb.out w2 hb2).mono ?_; rintro e w3 ⟨ao3, cp3, rfl, hr3, hb3⟩; have HR3 := hide2 hr3; have hbb3 := hb2.trans (hb3.mono hb2.size); clear hr3)
        | (go_at_call 10; refine (files_any (filesD xb.D) HHF.out (ownsRow_upd HR2.out (Upd.of_below (F := fun _ => False) hb3) (fun _ _ f => f)) HR3.out).mono ?_; rintro e w4 ⟨rfl, q4, rfl⟩)
        | (go_at_call_of 8 (Value.pointer (some { block := w.heap.size + 1, off := 0 })); refine (HRa.out _ (below_draws hbb3 q4)).mono ?_; rintro e w5 ⟨ao5, cp5, rfl, hr5, hb5⟩; have HR5 := hide2 hr5; have hbb5 := (below_draws hbb3 q4).trans (hb5.mono (below_draws hbb3 q4).size); clear hr5)
        | (go_at_call_of 8 (Value.pointer (some { block := w.heap.size + 2 + 1, off := 0 })); refine (HRb.out w5 hbb5).mono ?_; rintro e w6 ⟨ao6, cp6, rfl, hr6, hb6⟩; have HR6 := hide2 hr6; have hbb6 := hbb5.trans (hb6.mono hbb5.size); clear hr6)
        | (go_at_call 12; refine (raws_any xb.rs HHR.out (ownsRow_upd HR5.out (Upd.of_below (F := fun _ => False) hb6) (fun _ _ f => f)) HR6.out).mono ?_; rintro e w7 ⟨rfl, q7, rfl⟩; obtain ⟨fu, gu, bu⟩ := up_fit h0 (HFA.out.below (below_draws hbb6 q7)) (HFB.out.below (below_draws hbb6 q7)) hdj HE.out; have FU := hide2 fu; have GU := hide2 gu; have BU := hide2 bu; clear fu gu bu)
        | (go_at_call 13; refine (Up_any (HFA.out.below (below_draws hbb6 q7)).disk).mono ?_; rintro e w8 ⟨rfl, rfl⟩)
        | (go_at_call 9; refine (Down_any FU.out.disk).mono ?_; rintro e w9 ⟨rfl, rfl⟩)
        | (go_at_call_of 14 (Value.pointer (some { block := w.heap.size + 1, off := 0 })); refine (mkdir_a h0 FU.out GU.out hdj).mono ?_; rintro e w10 ⟨rfl, g10, b10⟩; have G10 := hide2 g10; have B10 := hide2 b10; clear g10 b10)
        | (go_at_call_of 14 (Value.pointer (some { block := w.heap.size + 2 + 1, off := 0 })); refine (mkdir_b G10.out).mono ?_; rintro e w11 ⟨rfl, b11⟩; have B11 := hide2 b11; clear b11)
        | (go_at_call 15; refine (lives_any w11 m (by rw [B11.out.cell (p := ⟨0, 0, none⟩) h0]; exact G10.out.max)).mono ?_; rintro e w12 ⟨rfl, b12⟩)
        | fail)
      go_ret
      have o6 := HOL.out.trans ((below_draws hbb6 q7).mono HOL.out.size)
      have o11 := ((o6.trans BU.out).trans B10.out).trans B11.out
      exact ⟨rfl, o11.trans (b12.mono o11.size)⟩

end Go.Proofs.YtlhoikmgeafgbaaDoor
