/- All listed variables, as the program's text lays them. -/
import Derived.Test.YtchnbknbccpmcaaDoorCas
import Derived.Test.YtchnbknbccpmcaaDoorNum
namespace Go.Proofs.YtchnbknbccpmcaaDoor
open Go.ChangeShapes Go.WideShapes Go.ChangeAt Go.WideMaps Go.WideElems Go.RowKit
open Go.Deep
open Go.Proofs.YtchnbknbccpmcaaDoor.H
/-- The listed variables: all of them. -/
def laidP : List (String × DataW Unit) := ("jackfield/hash.roundWords", Rows.laid_jackfield_hash_roundWords) :: laid18
theorem env_p {W : World} (h : laidMetH Tryd.prog laidP W) : ∃ (E : Nat → Value) (ad : Nat → Addr), Env W E (.iface 127 (.pointer (some (ad 0)))) (.iface 127 (.pointer (some (ad 1)))) ∧ Eighteen W ad := by
  rw [MakeChecks.laidMetH_plain _ _ _ (by kernel_rfl)] at h
  obtain ⟨hK, hl⟩ := laid_split h
  obtain ⟨E, hS⟩ := sents_of_laid _ order18 hl (by
    intro x hx
    simp [laid18] at hx
    rcases hx with rfl | rfl | rfl | rfl | rfl | rfl | rfl | rfl | rfl | rfl | rfl | rfl | rfl | rfl | rfl | rfl | rfl | rfl <;> exact ⟨_, rfl⟩) (by kernel_rfl) (by
    intro g hg
    simp [order18] at hg
    rcases hg with rfl | rfl | rfl | rfl | rfl | rfl | rfl | rfl | rfl | rfl | rfl | rfl | rfl | rfl | rfl | rfl | rfl | rfl <;> kernel_rfl)
  exact ⟨_, fun g => adOf (E g), env_of hK hS (by
    intro i hi
    have : i = 0 ∨ i = 1 ∨ i = 2 ∨ i = 3 ∨ i = 4 := by omega
    rcases this with rfl | rfl | rfl | rfl | rfl <;> decide) (by decide) (by decide), eighteen_of hS⟩
theorem door_metP (os : Os) (args : Array Value) : laidMetH Tryd.prog laidP ((World.doorLaid Tryd.prog 400 os).forCall (fun _ _ => 0) ⟨#[], args, []⟩).memory :=
  laidMetH_of_parts3 (fuel := 8) (laidMet_of_run' 8 (by kernel_rfl) (by kernel_rfl)) (by kernel_rfl) (by kernel_rfl)
end Go.Proofs.YtchnbknbccpmcaaDoor
