/- The reference's Remove, Rename, Cut and Up; what a map's datum keeps apart from memory. -/
import Derived.Test.YtpkllhgohkgcmaaGreatDoorRef10
import Derived.Deep.RegionHeld3
namespace Go.Proofs.YtpkllhgohkgcmaaGreatDoor
open Go.RowKit Go.Maps
set_option maxRecDepth 100000

/-- A map's datum: entries by rising paths, each an item. -/
def Plain (D : DataW Unit) : Prop := ∃ es, D = .map es ∧ es.Pairwise (fun p q => p.1.before q.1 = true) ∧ ∀ p ∈ es, ∃ s c t, p = (keyD s, itemD c t) ∧ okPath s = true

theorem IsDisk.plain {B : Nat} {w : World} {d mb n : Nat} {rv : Value} {x : Ab} (h : IsDisk B w d mb n rv x) : Plain x.D := by
  obtain ⟨es, he, hr, _, hf⟩ := own_entries h.own
  refine ⟨es, he, hr, fun p hp => ?_⟩
  obtain ⟨s, c, t, rfl⟩ := hf p hp
  obtain ⟨s', hs, hok⟩ := h.keys (keyD s) (by rw [he, has_eq, List.any_eq_true]; exact ⟨_, hp, WideAt.sameKey_self (isKey s)⟩)
  rw [← keyD_inj hs] at hok
  exact ⟨s, c, t, rfl, hok⟩

theorem Plain.isMap {D : DataW Unit} (h : Plain D) : IsMap D := by obtain ⟨es, rfl, _⟩ := h; exact ⟨es, rfl⟩
theorem Plain.strKeys {D : DataW Unit} (h : Plain D) : StrKeys D := by
  obtain ⟨es, rfl, _, hf⟩ := h
  exact ⟨es, rfl, fun p hp => by obtain ⟨s, c, t, rfl, _⟩ := hf p hp; exact ⟨s, rfl⟩⟩
theorem Plain.del {D : DataW Unit} (h : Plain D) (k : Lit) : Plain (D.del k) := by
  obtain ⟨es, rfl, hr, hf⟩ := h
  exact ⟨_, rfl, hr.filter _, fun p hp => hf p (List.mem_filter.1 hp).1⟩

theorem Plain.good {D : DataW Unit} (h : Plain D) : Good D := by
  obtain ⟨es, rfl, hr, hf⟩ := h
  have hap := apart_of_rising hr
  have hit : ∀ s, Maps.has (.map es : DataW Unit) (keyD s) = true → ∃ c t, DataW.atKey (.map es) (keyD s) zeroD = itemD c t ∧ (keyD s, itemD c t) ∈ es ∧ okPath s = true := by
    intro s hs
    rw [has_eq, List.any_eq_true] at hs
    obtain ⟨p, hp, hk⟩ := hs
    obtain ⟨s', c, t, rfl, hok⟩ := hf p hp
    have es' : s' = s := (sameKey_keyD _ _).1 hk
    subst es'
    exact ⟨c, t, WideAt.atKey_mem zeroD (isKey s') hap hp, hp, hok⟩
  refine ⟨?_, fun f => ?_, fun s hs => ?_, fun kl hk => ?_⟩
  · unfold Rising filesD
    rw [List.pairwise_map]
    refine hr.imp_of_mem fun {p q} hp hq hb => ?_
    obtain ⟨s, c, t, rfl, _⟩ := hf p hp
    obtain ⟨s', c', t', rfl, _⟩ := hf q hq
    simp only [litB_key]
    exact hb
  · unfold filesD
    rw [List.mem_map]
    constructor
    · rintro ⟨p, hp, rfl⟩
      obtain ⟨s, c, t, rfl, _⟩ := hf p hp
      simp only [litB_key, itDir_mk, itData_mk, bytes_mk]
      refine ⟨?_, WideAt.atKey_mem _ (isKey s) hap hp⟩
      rw [has_eq, List.any_eq_true]
      exact ⟨_, hp, WideAt.sameKey_self (isKey s)⟩
    · rintro ⟨h1, h2⟩
      obtain ⟨c, t, hat, hm, _⟩ := hit f.1 h1
      rw [h2] at hat
      refine ⟨_, hm, ?_⟩
      rw [← hat, file_of]
  · obtain ⟨c, t, hat, _, _⟩ := hit s hs
    exact ⟨c, t, hat⟩
  · rw [has_eq, List.any_eq_true] at hk
    obtain ⟨p, hp, hk⟩ := hk
    obtain ⟨s, c, t, rfl, hok⟩ := hf p hp
    exact ⟨s, (WideAt.sameKey_eq hk).symm, hok⟩

theorem used_files {D : DataW Unit} (hP : Plain D) (s : ByteArray) : usedD D s = (filesD D).any fun f => (parentOf f.1).toList == s.toList := by
  obtain ⟨es, rfl, _, _⟩ := hP
  unfold usedD keysD filesD
  rw [List.any_map, List.any_map]
  rfl

set_option maxHeartbeats 400000 in
theorem rCut_any {B : Nat} {w : World} {e : Nat} {lv rv : Value} {fs : List Fl} {rs : List (Int × ByteArray × ByteArray)} {left : Int} (h : IsRef B w e lv rv fs rs left) (k : Int) :
    Calls Tryz.prog 31 #[.pointer (some ⟨e, 0, none⟩), .int .i64 k] w fun e' w' => e' = .returned (.int .i64 (cutE left k)) ∧ IsRef B w' e lv rv fs rs (cutL left k) ∧ Upd (fun j => j = e) w w' := by
  have c2 := h.c2
  have f2 := h.f2
  by_cases h0 : (left == 0) = true
  · have HE : Hid (cutE left k = 15 ∧ cutL left k = left) := by unfold Hid cutE cutL; rw [if_pos h0, if_pos h0]; exact ⟨rfl, rfl⟩
    have HR := hide3 h
    clear h
    go_enter Tryz.func31, Tryz.ntmps31
    go_wp2
    go_ret
    rw [HE.out.1, HE.out.2]
    exact ⟨rfl, HR.out, Upd.refl _ _⟩
  rw [Bool.not_eq_true] at h0
  by_cases h1 : k < 0
  · have HE : Hid (cutE left k = 1 ∧ cutL left k = left) := by unfold Hid cutE cutL; simp [h0, h1]
    have HR := hide3 h
    clear h
    go_enter Tryz.func31, Tryz.ntmps31
    go_wp2
    go_ret
    rw [HE.out.1, HE.out.2]
    exact ⟨rfl, HR.out, Upd.refl _ _⟩
  · have HE : Hid (cutE left k = 0 ∧ cutL left k = k) := by unfold Hid cutE cutL; simp [h0, h1]
    have HR := hide3 (h.setLeft k)
    clear h
    go_enter Tryz.func31, Tryz.ntmps31
    go_wp2
    go_ret
    rw [HE.out.1, HE.out.2]
    exact ⟨rfl, HR.out, Upd.setCell _ ⟨_, 2, none⟩ _⟩

set_option maxHeartbeats 400000 in
theorem rUp_any {B : Nat} {w : World} {e : Nat} {lv rv : Value} {fs : List Fl} {rs : List (Int × ByteArray × ByteArray)} {left : Int} (h : IsRef B w e lv rv fs rs left) :
    Calls Tryz.prog 33 #[.pointer (some ⟨e, 0, none⟩)] w fun e' w' => e' = .returned (.tuple #[]) ∧ IsRef B w' e lv rv fs rs (-1) ∧ Upd (fun j => j = e) w w' := by
  have c2 := h.c2
  have f2 := h.f2
  have HR := hide3 (h.setLeft (-1))
  clear h
  go_enter Tryz.func33, Tryz.ntmps33
  go_wp2
  go_end0
  exact ⟨rfl, HR.out, Upd.setCell _ ⟨_, 2, none⟩ _⟩

end Go.Proofs.YtpkllhgohkgcmaaGreatDoor
