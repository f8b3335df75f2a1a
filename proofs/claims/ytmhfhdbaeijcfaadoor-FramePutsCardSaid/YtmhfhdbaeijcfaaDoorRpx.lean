/- The document's Put, whole. -/
import Derived.Test.YtmhfhdbaeijcfaaDoorRfoe
namespace Go.Proofs.YtmhfhdbaeijcfaaDoor
open Go.RowKit
open Go.Proofs.YtmhfhdbaeijcfaaDoor.H
set_option maxRecDepth 100000 in
set_option maxHeartbeats 2000000 in
theorem rput_bad (f : Fr) (v : Value) (g : Nat) (w : World) (hv : Hid (v = f.v)) (hf : f.ok w w.heap.size) (hval : valid f = false) :
    Calls Tryd.prog 14 #[.pointer (some ⟨g, 0, none⟩), v] w fun e w' => e = .returned (.tuple #[.slice none 0 0, .bool false]) ∧ Hid (Below w.heap.size w w') := by
  have HRF : Hid (∀ (w : World) (v : Value), Hid (v = f.v) → f.ok w w.heap.size → Calls Tryd.prog 42 #[v] w fun e w' => e = .returned (.bool false) ∧ Hid (Below w.heap.size w w')) := Lib.hid (by
    have h := rform_every f
    rw [hval] at h
    exact h)
  have HF := Lib.hid hf
  obtain ⟨m, HN⟩ : ∃ m, Hid (f.bs.length = m) := ⟨_, rfl⟩
  have HV : Hid (v = .agg (f.cells m).toArray) := Lib.hid (by rw [hv.out, ← HN.out]; rfl)
  have HV2 : Hid (Value.agg (f.cells m).toArray = f.v) := Lib.hid (by rw [← HN.out]; rfl)
  clear hf hval hv
  go_enter Tryd.func14, Tryd.ntmps14
  go_wp2_with (first
    | (refine wl_box rfl 25 (.tmp 1) rfl (f.cells m) HV.out ?_
       intro w1 HA1 HB1 HZ1
       have hz1 : w.heap.size < w1.heap.size := by rw [HZ1.out]; omega)
    | (refine wl_load rfl 25 (.tmp 3) rfl w.heap.size rfl 25 _ _ HA1.out under25.choose_spec rfl size25 ?_
       intro vp HVP))
  have HF1 := Lib.hid ((HF.out.below HB1.out).more HB1.out.size)
  with_reducible refine (HRF.out w1 vp (Lib.hid (HVP.out.trans HV2.out)) HF1.out).mono ?_
  rintro e w2 ⟨rfl, HV2w⟩
  go_wp2_with fail
  go_ret2
  exact ⟨rfl, Lib.hid (HB1.out.trans (HV2w.out.mono HB1.out.size))⟩
/-- What the document's Put answers: a valid frame's bytes and yes, or no. -/
theorem rput_any (f : Fr) (v : Value) (g : Nat) (w : World) (hv : Hid (v = f.v)) (hT : Tab w w.heap.size g) (hf : f.ok w w.heap.size) :
    Calls Tryd.prog 14 #[.pointer (some ⟨g, 0, none⟩), v] w fun e w' => ∃ x, e = .returned (.tuple #[x, .bool (valid f)]) ∧ Hid (Below w.heap.size w w' ∧ ((valid f = false ∧ x = .slice none 0 0) ∨ (valid f = true ∧ w'.ownsRow w.heap.size 5 1 x (total f + 4) ((putB f).map bv)))) := by
  cases hb : valid f with
  | false =>
    refine (rput_bad f v g w hv hf hb).mono ?_
    rintro e w' ⟨h1, h2⟩
    exact ⟨_, h1, Lib.hid ⟨h2.out, .inl ⟨rfl, rfl⟩⟩⟩
  | true =>
    have hF : RForm f true := by have h := rform_every f; rwa [hb] at h
    refine (rput_of f v g w (rcells_every f) hF hv hT hf hb).mono ?_
    rintro e w' ⟨x, h1, h2⟩
    exact ⟨x, h1, Lib.hid ⟨h2.out.2, .inr ⟨rfl, h2.out.1⟩⟩⟩
end Go.Proofs.YtmhfhdbaeijcfaaDoor
