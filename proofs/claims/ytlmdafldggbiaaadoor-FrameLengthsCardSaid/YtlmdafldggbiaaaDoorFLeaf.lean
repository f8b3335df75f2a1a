/- What the small pure functions of package fields answer (headSize, isText, greatest): for every byte, every head. No conditions. -/
import Derived.Test.YtlmdafldggbiaaaDoorRows
import Derived.WalkKit
import Derived.WalkSpells
import Derived.WalkLawsBesides
namespace Go.Proofs.YtlmdafldggbiaaaDoor.F
open Go.RowKit

def hd (c : Nat) : Nat := if c = 98 ∨ c = 116 then 1 else if c = 104 ∨ c = 114 then 2 else if c = 119 then 4 else if c = 113 ∨ c = 102 then 8 else 0
def isT (c : Nat) : Bool := decide (c = 116 ∨ c = 114)
def great (h : Nat) : Nat := if h = 8 then 9223372036854775807 else 256 ^ h - 1

theorem ret_int {k : IntKind} {a b : Int} (h : a = b) : Ending.returned (.int k a) = .returned (.int k b) := by rw [h]
theorem ret_bool {a b : Bool} (h : a = b) : Ending.returned (.bool a) = .returned (.bool b) := by rw [h]

set_option maxRecDepth 100000 in
set_option maxHeartbeats 400000 in
theorem headSize_any (c : Nat) (w : World) :
    Calls Tryd.prog 57 #[.int .u8 (c : Int)] w fun e w' => e = .returned (.int .i64 (hd c : Int)) ∧ w = w' := by
  go_enter Tryd.func57, Tryd.ntmps57
  go_wp2
  all_goals
    go_ret
    refine ⟨ret_int ?_, rfl⟩
    simp only [beq_iff_eq, beq_eq_false_iff_ne] at *
    unfold hd
    repeat' split
    all_goals omega

set_option maxRecDepth 100000 in
set_option maxHeartbeats 400000 in
theorem isText_any (c : Nat) (w : World) :
    Calls Tryd.prog 58 #[.int .u8 (c : Int)] w fun e w' => e = .returned (.bool (isT c)) ∧ w = w' := by
  go_enter Tryd.func58, Tryd.ntmps58
  go_wp2
  all_goals
    go_ret
    refine ⟨ret_bool ?_, rfl⟩
    unfold isT
    rw [Bool.eq_iff_iff]
    simp
    omega

set_option maxRecDepth 100000 in
set_option maxHeartbeats 400000 in
theorem greatest_any (h : Nat) (w : World) (hh : h = 1 ∨ h = 2 ∨ h = 4 ∨ h = 8) :
    Calls Tryd.prog 59 #[.int .i64 (h : Int)] w fun e w' => e = .returned (.int .u64 (great h : Int)) ∧ w = w' := by
  rcases hh with rfl | rfl | rfl | rfl
  all_goals
    go_enter Tryd.func59, Tryd.ntmps59
    go_wp2
    go_ret
    exact ⟨ret_int (by decide), rfl⟩
end Go.Proofs.YtlmdafldggbiaaaDoor.F
