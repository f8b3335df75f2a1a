/- The document's InForm of no kind, and of every frame. -/
import Derived.Test.YtmhfhdbaeijcfaaDoorRfoa
import Derived.Test.YtmhfhdbaeijcfaaDoorRfob
import Derived.Test.YtmhfhdbaeijcfaaDoorRfoc
namespace Go.Proofs.YtmhfhdbaeijcfaaDoor
open Go.RowKit
open Go.Proofs.YtmhfhdbaeijcfaaDoor.H
open List (getElem_toArray getElem_cons_succ getElem_cons_zero setIfInBounds_toArray set_cons_zero set_cons_succ)
set_option maxRecDepth 100000 in
set_option maxHeartbeats 8000000 in
theorem rform_n (f : Fr) (hk : used f.kind = []) : RForm f (valid f) := by
  intro w v hv hf
  obtain ⟨m, HN⟩ : ∃ m, Hid (f.bs.length = m) := ⟨_, rfl⟩
  have HV : Hid (v = .agg (f.cells m).toArray) := Lib.hid (by rw [hv.out, ← HN.out]; rfl)
  have HF := Lib.hid hf
  have HRC : Hid (∀ (w : World) (v : Value), Hid (v = f.v) → f.ok w w.heap.size → Calls Tryd.prog 16 #[v] w fun e w' => ∃ A, e = .returned (.tuple #[.string ⟨#[]⟩, .slice A 0 0]) ∧ Hid (Below w.heap.size w w')) := Lib.hid (fun w v hv hf => by
    have h := rcells_every f w v hv hf
    have e1 : (⟨(layL f.kind).toArray⟩ : ByteArray) = ⟨#[]⟩ := by unfold layL; rw [hk]; rfl
    have e2 : (used f.kind).length = 0 := by rw [hk]; rfl
    rw [e1, e2] at h
    exact h.mono fun e w' ⟨A, h1, h2⟩ => ⟨A, h1, Lib.hid h2.out.2⟩)
  have HM : Hid (valid f = false) := Lib.hid (by
    rw [Bool.eq_false_iff]
    intro h
    exact valid_used h hk)
  clear hv hf hk
  go_enter Tryd.func42, Tryd.ntmps42
  go_wp2_with (first
    | (refine wl_box rfl 25 (.tmp 0) rfl (f.cells m) HV.out ?_
       intro w1 HA1 HB1 HZ1
       have hz1 : w.heap.size < w1.heap.size := by rw [HZ1.out]; omega)
    | (refine wl_load rfl 25 (.tmp 1) rfl w.heap.size rfl 25 _ _ HA1.out under25.choose_spec rfl size25 ?_
       intro vp HVP))
  have HVP2 : Hid (vp = f.v) := Lib.hid (by rw [HVP.out, ← HN.out]; rfl)
  have HF1 : Hid (f.ok w1 w1.heap.size) := Lib.hid ((HF.out.below HB1.out).more (Nat.le_of_lt hz1))
  with_reducible refine (HRC.out w1 vp HVP2 HF1.out).mono ?_
  rintro e w2 ⟨A2, rfl, HV2⟩
  have HB2 := Lib.hid (HB1.out.trans (HV2.out.mono HB1.out.size))
  clear HV2 HVP HVP2 HA1 HB1 HZ1
  have HBD : Hid (Below w2.heap.size w2 w2.drew) := Lib.hid ((Below.refl _ _).drew)
  go_wp2_with fail
  refine wp_region_held_drew (S := fun w' => True) (by kernel_rfl) trivial (fun hHeld => ?_)
  refine tke 0 (.string ⟨#[]⟩) rfl (Or.inl ⟨by kernel_rfl, ?_⟩) ?_
  · (intro w' hSw; (try dsimp only at hSw); go_simp)
  simp only [getElem_toArray, getElem_cons_zero, Act.put, setIfInBounds_toArray, set_cons_zero, set_cons_succ]
  refine tke 1 (.bool true) rfl (Or.inl ⟨by kernel_rfl, ?_⟩) ?_
  · (intro w' hSw; (try dsimp only at hSw); go_simp)
  simp only [getElem_toArray, getElem_cons_succ, getElem_cons_zero, Act.put, setIfInBounds_toArray, set_cons_zero, set_cons_succ]
  refine tke 2 (.bool true) rfl (Or.inl ⟨by kernel_rfl, ?_⟩) ?_
  · (intro w' hSw; (try dsimp only at hSw); go_simp)
  simp only [getElem_toArray, getElem_cons_succ, getElem_cons_zero, Act.put, setIfInBounds_toArray, set_cons_zero, set_cons_succ]
  refine tke 3 (undef) rfl (Or.inr ⟨by kernel_rfl, rfl⟩) ?_
  simp only [getElem_toArray, getElem_cons_succ, getElem_cons_zero, Act.put, setIfInBounds_toArray, set_cons_zero, set_cons_succ]
  refine tke 4 (undef) rfl (Or.inr ⟨by kernel_rfl, rfl⟩) ?_
  simp only [getElem_toArray, getElem_cons_succ, getElem_cons_zero, Act.put, setIfInBounds_toArray, set_cons_zero, set_cons_succ]
  refine tke 5 (undef) rfl (Or.inr ⟨by kernel_rfl, rfl⟩) ?_
  simp only [getElem_toArray, getElem_cons_succ, getElem_cons_zero, Act.put, setIfInBounds_toArray, set_cons_zero, set_cons_succ]
  refine tke 6 (undef) rfl (Or.inr ⟨by kernel_rfl, rfl⟩) ?_
  simp only [getElem_toArray, getElem_cons_succ, getElem_cons_zero, Act.put, setIfInBounds_toArray, set_cons_zero, set_cons_succ]
  refine tke 7 (undef) rfl (Or.inr ⟨by kernel_rfl, rfl⟩) ?_
  simp only [getElem_toArray, getElem_cons_succ, getElem_cons_zero, Act.put, setIfInBounds_toArray, set_cons_zero, set_cons_succ]
  refine tke 8 (undef) rfl (Or.inr ⟨by kernel_rfl, rfl⟩) ?_
  simp only [getElem_toArray, getElem_cons_succ, getElem_cons_zero, Act.put, setIfInBounds_toArray, set_cons_zero, set_cons_succ]
  refine tke 9 (undef) rfl (Or.inr ⟨by kernel_rfl, rfl⟩) ?_
  simp only [getElem_toArray, getElem_cons_succ, getElem_cons_zero, Act.put, setIfInBounds_toArray, set_cons_zero, set_cons_succ]
  refine tke 10 (.bool true) rfl (Or.inl ⟨by kernel_rfl, ?_⟩) ?_
  · (intro w' hSw; (try dsimp only at hSw); go_simp)
  simp only [getElem_toArray, getElem_cons_succ, getElem_cons_zero, Act.put, setIfInBounds_toArray, set_cons_zero, set_cons_succ]
  refine wpAnyH_done (by kernel_rfl) ?_ _
  (try simp only [getElem_toArray, getElem_cons_succ, getElem_cons_zero, Act.put, setIfInBounds_toArray, set_cons_zero, set_cons_succ])
  clear hHeld
  go_wp2_with fail
  go_ret
  exact ⟨by rw [HM.out]; rfl, Lib.hid (HB2.out.trans (HBD.out.mono HB2.out.size))⟩
/-- What the document's InForm answers: whether the frame is valid. -/
theorem rform_every (f : Fr) : RForm f (valid f) := by
  rcases kinds_or f.kind with (h | h | h | h | h | h | h | h | h | h | h | h | h | h | h | h | h) | h
  · exact rform_1 f h
  · exact rform_2 f h
  · exact rform_3 f h
  · exact rform_4 f h
  · exact rform_5 f h
  · exact rform_6 f h
  · exact rform_7 f h
  · exact rform_8 f h
  · exact rform_9 f h
  · exact rform_10 f h
  · exact rform_11 f h
  · exact rform_12 f h
  · exact rform_13 f h
  · exact rform_14 f h
  · exact rform_15 f h
  · exact rform_16 f h
  · exact rform_17 f h
  · exact rform_n f (used_none _ h)
end Go.Proofs.YtmhfhdbaeijcfaaDoor
