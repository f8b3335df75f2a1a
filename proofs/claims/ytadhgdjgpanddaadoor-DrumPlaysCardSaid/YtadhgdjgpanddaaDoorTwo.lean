/- What the two listed errors' variables hold when a call begins. -/
import Derived.Test.YtadhgdjgpanddaaDoorArgs
import Derived.Test.YtadhgdjgpanddaaDoorAlive
namespace Go.Proofs.YtadhgdjgpanddaaDoor
open Go.ChangeShapes Go.WideShapes Go.ChangeAt Go.WideMaps Go.WideElems Go.RowKit Go.Deep

def laid2 : List (String × DataW Unit) := [("jackfield/api.ErrRange", Rows.laid_jackfield_api_ErrRange), ("jackfield/api.ErrPower", Rows.laid_jackfield_api_ErrPower)]
def idx2 : List Nat := [0, 1]
theorem sents2 {W : World} (h : laidMetH Tryd.prog laid2 W) : ∃ E, Sents W E idx2 := by
  rw [MakeChecks.laidMetH_plain _ _ _ (by kernel_rfl)] at h
  refine sents_of_laid laid2 idx2 h ?_ (by kernel_rfl) ?_
  · intro x hx
    simp only [laid2, List.mem_cons, List.not_mem_nil, or_false] at hx
    rcases hx with rfl | rfl <;> exact ⟨_, rfl⟩
  · have hall : (idx2.all fun g => (Tryd.prog.globals[g]?).map (·.type) == some 27) = true := by kernel_rfl
    intro g hg
    have := List.all_eq_true.1 hall g hg
    simpa using this
theorem door_met2 (os : Os) (args : Array Value) : laidMetH Tryd.prog laid2 ((World.doorLaid Tryd.prog 400 os).forCall (fun _ _ => 0) ⟨#[], args, []⟩).memory :=
  laidMetH_of_parts3 (fuel := 8) (laidMet_of_run' 8 (by kernel_rfl) (by kernel_rfl)) (by kernel_rfl) (by kernel_rfl)
theorem errs2 {W : World} (h : laidMetH Tryd.prog laid2 W) : ∃ ad, Errs W ad ∧ 2 ≤ W.heap.size := by
  obtain ⟨E, hE⟩ := sents2 h
  have h2 : ∀ k, k < 2 → k ∈ idx2 := by decide
  exact ⟨fun g => adOf (E g), ⟨fun k hk => hE.cell (h2 k hk)⟩, hE.size (g := 1) (by decide)⟩
end Go.Proofs.YtadhgdjgpanddaaDoor
