/- DiskWhole: of any row of deeds and any deed it answers true, and its arguments read as they read before (the tied card). Conditions: none but the row's own. -/
import Derived.Test.YtpkllhgohkgcmaaGreatDoorRow1
import Derived.Test.YtpkllhgohkgcmaaGreatDoorWhole4
namespace Go.Proofs.YtpkllhgohkgcmaaGreatDoor
open Go.ChangeShapes Go.WideShapes Go.ChangeAt Go.RowKit
set_option maxRecDepth 100000

theorem whole_all (w : World) (m : Int) (hm : w.cell? ⟨0, 0, none⟩ = some (.int .i64 m)) (a : Option Addr) (len cap : Nat) (hlen : len * 64 ≤ 140737488351232) (hd : IsDeeds w a len)
    (xk : Int) (xp xt xu : ByteArray) (xz : Int) (hk0 : -9223372036854775808 ≤ xk) (hk1 : xk ≤ 9223372036854775807) (hxp : xp.size ≤ maxLen) (hxt : xt.size ≤ maxLen) (hxu : xu.size ≤ maxLen) :
    Calls Tryz.prog 6 #[.slice a len cap, .agg #[.int .i64 xk, .string xp, .string xt, .string xu, .int .i64 xz]] w fun e w' => e = .returned (.bool true) ∧ Below w.heap.size w w' := by
  rcases hd with rfl | ⟨g, off, rfl, hg, hl⟩
  · exact whole_walk w m hm a 0 0 0 cap hlen (fun h => by cases h) (fun h => by cases h) (fun i hi => by cases hi) xk xp xt xu xz hk0 hk1 hxp hxt hxu
  · exact whole_walk w m hm _ g off len cap hlen (fun _ => rfl) (fun _ => hg) hl xk xp xt xu xz hk0 hk1 hxp hxt hxu

theorem cellsOfDeed : Tryz.prog.cellsOf 29 = 5 := by kernel_rfl

/-- A deed that came in as a value. -/
theorem open_deed {H : Type} {enc : TypeId × Value → H} {W : World} {base b0 : Nat} {spare : Nat → Bool} {held : Bool} {v : Value} {d : DataW H} {p : List MemPlace} (hv : Value.okWide Tryz.prog W .any b0 29 v)
    (h : DataW.Trod enc Tryz.prog W base spare held 29 v d p) : ∃ xk xp xt xu xz, v = .agg #[.int .i64 xk, .string xp, .string xt, .string xu, .int .i64 xz] ∧ (-9223372036854775808 ≤ xk ∧ xk ≤ 9223372036854775807) ∧ xp.size ≤ maxLen ∧ xt.size ≤ maxLen ∧ xu.size ≤ maxLen := by
  have hs : Tryz.prog.underlying 29 = some (.struct (Tryz.prog.fieldsOf 29)) := by kernel_rfl
  obtain ⟨cs, rfl, hsz⟩ := okWide_struct hs hv
  obtain ⟨n, h⟩ := h
  obtain ⟨xs, n', _, _, _, hxl, hf⟩ := DataW.trod_struct hs h
  have hfz : (Tryz.prog.fieldsOf 29).size = 5 := by kernel_rfl
  rw [cellsOfDeed] at hsz
  have ints : ∀ i off, ((Tryz.prog.fieldsOf 29)[i]?).map (fun f => (f.type, f.offset)) = some (3, off) → i < 5 → ∃ k, cs.toList[off]? = some (.int .i64 k) ∧ (Lit.int .i64 k).wf = true := by
    intro i off hfd hi
    obtain ⟨f, h1, h2, h3⟩ := field_at hfd
    have hr := hf i f h1
    rw [h2, h3, cellsInt, List.getElem?_eq_getElem (by omega : i < xs.length)] at hr
    obtain ⟨k, e1, _, wk⟩ := DataW.trod_int Tryz.underlying3 hr
    exact ⟨k, take_one e1, wk⟩
  have strs : ∀ i off, ((Tryz.prog.fieldsOf 29)[i]?).map (fun f => (f.type, f.offset)) = some (9, off) → i < 5 → ∃ s, cs.toList[off]? = some (.string s) ∧ s.size ≤ maxLen := by
    intro i off hfd hi
    obtain ⟨f, h1, h2, h3⟩ := field_at hfd
    have hr := hf i f h1
    rw [h2, h3, cellsString, List.getElem?_eq_getElem (by omega : i < xs.length)] at hr
    obtain ⟨s, e1, _, ws⟩ := DataW.trod_string Tryz.underlying9 hr
    exact ⟨s, take_one e1, ws⟩
  obtain ⟨xk, a0, wk⟩ := ints 0 0 (by kernel_rfl) (by decide)
  obtain ⟨xp, a1, wp⟩ := strs 1 1 (by kernel_rfl) (by decide)
  obtain ⟨xt, a2, wt⟩ := strs 2 2 (by kernel_rfl) (by decide)
  obtain ⟨xu, a3, wu⟩ := strs 3 3 (by kernel_rfl) (by decide)
  obtain ⟨xz, a4, wz⟩ := ints 4 4 (by kernel_rfl) (by decide)
  obtain ⟨l⟩ := cs
  obtain ⟨v0, v1, v2, v3, v4, rfl⟩ := list5 (l := l) (by simpa using hsz)
  simp at a0 a1 a2 a3 a4
  subst a0 a1 a2 a3 a4
  exact ⟨xk, xp, xt, xu, xz, rfl, bounds_i64 wk, wp, wt, wu⟩

theorem whole_lifted (os : Os) (started : os.Started) (H : Type) (enc : TypeId × Value → H) :
    ReturnsInHanded {} Tryz.checked os 6 .any (fun w args => (Rows.diskWholeSpec.pre enc Tryz.prog Tryz.f6 [] false w args ∧ laidMetH Tryz.prog Rows.diskWholeRow.laid w) ∧ sizedMet enc Tryz.prog Tryz.f6 (OpenSpec.ofChange Rows.diskWholeSpec) false w args)
      (Rows.diskWholeSpec.post enc Tryz.prog Tryz.f6 false true false false) := by
  refine wrap_shaped (C := Tryz.checked) (X := fun w _ => laidMetH Tryz.prog Rows.diskWholeRow.laid w) own started (by kernel_rfl) Tryz.func6
    (ChangeSpec.witness_shaped (enc := enc) (C := Tryz.checked) (os := os) (X := fun w _ => laidMetH Tryz.prog Rows.diskWholeRow.laid w) false (World.laidAll Tryz.prog os Rows.diskWholeRow.laid) #[.slice none 0 0, .agg #[.int .i64 0, .string ByteArray.empty, .string ByteArray.empty, .string ByteArray.empty, .int .i64 0]] 8 (World.laidAll_os _ _ _)
      (World.shaped_of_ZipB (by kernel_rfl) (by kernel_rfl)) (by kernel_rfl) (by kernel_rfl) (by kernel_rfl)
      (by rw [MakeChecks.laidMetH_plain _ _ _ (by kernel_rfl)]; exact laidMet_laidAll _ (by kernel_rfl) (by kernel_rfl))) ?_
  intro W base args ds gs before hval0 hW hsz hsh
  have hval : ∀ (j : Nat) t v, Tryz.f6.params[j]? = some t → args[j]? = some v → Value.okWide Tryz.prog W .any base t v := hval0
  have hW' := hW
  obtain ⟨p, q, hA0, hV, rfl, _, _⟩ := hW
  have hA : DataW.TrodAll enc Tryz.prog W 0 (fun _ => true) true Tryz.f6.params.toList args.toList ds p := hA0
  rw [Tryz.params6] at hA hval
  obtain ⟨v0, vs0, d0, ds0, p0, q0, hargs, rfl, rfl, h0, r0⟩ := trodAll_cons hA
  obtain ⟨v1, vs1, d1, ds1, p1, q1, rfl, rfl, rfl, h1, r1⟩ := trodAll_cons r0
  obtain ⟨rfl, rfl, rfl⟩ := trodAll_nil r1
  obtain rfl : args = #[v0, v1] := by cases args; simp_all
  obtain ⟨rfl, rfl⟩ := trodVars_none hV
  obtain ⟨a0, len0, cap0, rfl⟩ := okWide_slice Tryz.underlying22 (hval 0 22 v0 rfl rfl)
  have k0 := h0
  have k1 := h1
  have lt0 : ∀ x ∈ p0, x.block < W.heap.size := by obtain ⟨m, hm⟩ := k0; exact DataW.trod_lt m _ _ _ hm
  have lt1 : ∀ x ∈ p1, x.block < W.heap.size := by obtain ⟨m, hm⟩ := k1; exact DataW.trod_lt m _ _ _ hm
  obtain ⟨hdd, hlen⟩ : IsDeeds W a0 len0 ∧ (len0 = 0 ∨ ∃ el sp, d0 = .slice el sp ∧ len0 ≤ el.length + sp.length) := by
    obtain ⟨fuel, hf⟩ := h0
    exact open_deeds (x := (d0, p0)) (by simpa [Value.cells] using hf)
  have hreach : len0 * 64 ≤ 140737488351232 := by
    rcases hlen with rfl | ⟨el, sp, rfl, hle⟩
    · decide
    · have := sized_slice hsz (j := 0) (t := 22) (e := 29) rfl rfl Tryz.underlying22
      have e : Tryz.checked.prog.bytesOf 29 = 64 := bytesDeed
      rw [e] at this
      have r : reachBytes = 140737488351232 := rfl
      omega
  obtain ⟨xk, xp, xt, xu, xz, rfl, hxk, hxp, hxt, hxu⟩ := open_deed (hval 1 29 v1 rfl rfl) h1
  obtain ⟨m, hm⟩ := max_cell (W := W) hsh
  clear hA0 hval0
  refine (whole_all W m hm a0 len0 cap0 hreach hdd xk xp xt xu xz hxk.1 hxk.2 hxp hxt hxu).mono fun e W' ⟨he, bel⟩ => ?_
  subst he
  exact ⟨_, rfl, _, _, _, [], _, [], hW', trodAll_mk1 (shut_bool Tryz.underlying4 _), (trodAll_cons_mk (Below.trod laidOut (by kernel_rfl) (of_decide_eq_true (by kernel_rfl)) k0 bel lt0) (trodAll_cons_mk (Below.trod laidOut (by kernel_rfl) (of_decide_eq_true (by kernel_rfl)) k1 bel lt1) trodAll_mk0)), rfl, bel.frame _, fun h => by cases h⟩

theorem whole_said : Rows.DiskWholeSaid :=
  OpenClaim.holds_of_wide 6 Tryz.f6 rfl rfl rfl rfl rfl rfl rfl ⟨rfl, rfl, rfl, rfl, rfl⟩ rfl rfl rfl rfl rfl (by kernel_rfl) Tryz.func6 (by kernel_rfl)
    (of_decide_eq_true (by kernel_rfl)) (by unfold Func.isWrapper; first | (rw [if_pos (by decide +kernel)]; kernel_rfl) | (rw [if_neg (by decide +kernel)]; exact ⟨rfl, rfl⟩))
    (fun os started H enc _ => whole_lifted os started H enc)

theorem diskWhole_holds : Rows.DiskWholeCardSaid :=
  Claim7.holds_tied_plain_at .later [] _ _ _ _ whole_said (fun _ h => by cases h) (by kernel_rfl) (fun _ h => by cases h) diskWhole_row_tie rfl ⟨rfl, rfl⟩ (by kernel_rfl) rfl
    (fun f fn hf hfn => by
      obtain rfl : f = 6 := Option.some.inj ((show Tryz.prog.funcNamed Rows.diskWholeRow.func = some 6 by kernel_rfl).symm.trans hf) |>.symm
      obtain rfl : fn = Tryz.f6 := (Option.some.inj (Tryz.func6.symm.trans hfn)).symm
      exact ⟨by kernel_rfl, fun j t ht => by
        rw [Tryz.params6] at ht
        have hm : t ∈ [22, 29] := by simpa using Array.mem_of_getElem? ht
        have hall : ([22, 29].all fun u => !Tryz.prog.wantsStandIn u) = true := by kernel_rfl
        exact (show Tryz.prog.wantsStandIn t = false by simpa using List.all_eq_true.1 hall t hm)⟩)
    (by kernel_rfl)
#print axioms diskWhole_holds
end Go.Proofs.YtpkllhgohkgcmaaGreatDoor
