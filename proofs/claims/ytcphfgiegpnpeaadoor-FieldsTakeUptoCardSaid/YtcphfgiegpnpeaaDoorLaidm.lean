/- What all eighteen errors' variables hold when a call begins. -/
import Derived.Test.YtcphfgiegpnpeaaDoorNumc
namespace Go.Proofs.YtcphfgiegpnpeaaDoor
open Go.ChangeShapes Go.WideShapes Go.ChangeAt Go.WideMaps Go.WideElems Go.RowKit

def laid18 : List (String × DataW Unit) := [("jackfield/api.ErrRange", Rows.laid_jackfield_api_ErrRange), ("jackfield/api.ErrShort", Rows.laid_jackfield_api_ErrShort), ("jackfield/api.ErrLong", Rows.laid_jackfield_api_ErrLong), ("jackfield/api.ErrTail", Rows.laid_jackfield_api_ErrTail), ("jackfield/api.ErrBroken", Rows.laid_jackfield_api_ErrBroken), ("jackfield/api.ErrPower", Rows.laid_jackfield_api_ErrPower), ("jackfield/api.ErrFrame", Rows.laid_jackfield_api_ErrFrame), ("jackfield/api.ErrFull", Rows.laid_jackfield_api_ErrFull), ("jackfield/api.ErrGap", Rows.laid_jackfield_api_ErrGap), ("jackfield/api.ErrName", Rows.laid_jackfield_api_ErrName), ("jackfield/api.ErrTaken", Rows.laid_jackfield_api_ErrTaken), ("jackfield/api.ErrNone", Rows.laid_jackfield_api_ErrNone), ("jackfield/api.ErrOwner", Rows.laid_jackfield_api_ErrOwner), ("jackfield/api.ErrProof", Rows.laid_jackfield_api_ErrProof), ("jackfield/api.ErrWindow", Rows.laid_jackfield_api_ErrWindow), ("jackfield/api.ErrStream", Rows.laid_jackfield_api_ErrStream), ("jackfield/api.ErrState", Rows.laid_jackfield_api_ErrState), ("jackfield/api.ErrBusy", Rows.laid_jackfield_api_ErrBusy)]
theorem sents18 {W : World} (h : laidMetH Tryd.prog laid18 W) : ∃ E, Sents W E order18 := by
  rw [MakeChecks.laidMetH_plain _ _ _ (by kernel_rfl)] at h
  refine sents_of_laid laid18 order18 h ?_ (by kernel_rfl) ?_
  · intro x hx
    simp only [laid18, List.mem_cons, List.not_mem_nil, or_false] at hx
    rcases hx with rfl | rfl | rfl | rfl | rfl | rfl | rfl | rfl | rfl | rfl | rfl | rfl | rfl | rfl | rfl | rfl | rfl | rfl <;> exact ⟨_, rfl⟩
  · have hall : (order18.all fun g => (Tryd.prog.globals[g]?).map (·.type) == some 26) = true := by kernel_rfl
    intro g hg
    have := List.all_eq_true.1 hall g hg
    simpa using this
/-- The door's own heap meets the condition. -/
theorem door_met18 (os : Os) (args : Array Value) : laidMetH Tryd.prog laid18 ((World.doorLaid Tryd.prog 400 os).forCall (fun _ _ => 0) ⟨#[], args, []⟩).memory :=
  laidMetH_of_parts3 (fuel := 8) (laidMet_of_run' 8 (by kernel_rfl) (by kernel_rfl)) (by kernel_rfl) (by kernel_rfl)
theorem Sents.size18 {W : World} {E : Nat → Value} (h : Sents W E order18) : 18 ≤ W.heap.size := by
  obtain ⟨_, _, _, _, hc, _⟩ := h.at_ 17 (by decide)
  rcases Nat.lt_or_ge 17 W.heap.size with hlt | hge
  · omega
  · unfold World.cell? at hc
    rw [Array.getElem?_eq_none (by simpa using hge)] at hc
    cases hc
end Go.Proofs.YtcphfgiegpnpeaaDoor
