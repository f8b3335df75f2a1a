/- What extent answers, for every field. -/
import Derived.Test.YtlmdafldggbiaaaDoorExt
namespace Go.Proofs.YtlmdafldggbiaaaDoor
open Go.RowKit
open Go.Proofs.YtlmdafldggbiaaaDoor.H
theorem ext_nine (x : Nat) (hx : x < 9) : x = 0 ∨ x = 1 ∨ x = 2 ∨ x = 3 ∨ x = 4 ∨ x = 5 ∨ x = 6 ∨ x = 7 ∨ x = 8 := by omega
theorem calls_int {v : Value} {a b c d : Int} {w : World} (h : Calls Tryd.prog 36 #[v, .int .i64 a] w fun e w' => e = .returned (.int .i64 c) ∧ Hid (Below w.heap.size w w')) (e1 : a = b) (e2 : c = d) : Calls Tryd.prog 36 #[v, .int .i64 b] w fun e w' => e = .returned (.int .i64 d) ∧ Hid (Below w.heap.size w w') := by
  subst e1 e2
  exact h
theorem extent_any (f : Fr) (v : Value) (x : Nat) (w : World) (hv : Hid (v = f.v)) (hx : x < 9) (hf : f.ok w w.heap.size) : Calls Tryd.prog 36 #[v, .int .i64 (x : Int)] w fun e w' => e = .returned (.int .i64 (ext f x)) ∧ Hid (Below w.heap.size w w') := by
  have HV : Hid (v = .agg (f.cells f.bs.length).toArray) := hv
  have hn : f.bs.length ≤ 9223372036854775807 := Nat.le_trans hf.cap hf.max
  rcases ext_nine x hx with rfl | rfl | rfl | rfl | rfl | rfl | rfl | rfl | rfl
  · exact calls_int (extent_0 f v _ w HV) rfl (by simp [ext])
  · exact calls_int (extent_1 f v _ w HV) rfl (by simp [ext])
  · exact calls_int (extent_2 f v _ w HV) rfl (by simp [ext])
  · exact calls_int (extent_3 f v _ w HV) rfl (by simp [ext])
  · exact calls_int (extent_4 f v _ w HV) rfl (by simp [ext])
  · exact calls_int (extent_5 f v _ w HV hf.who) rfl (by simp [ext])
  · exact calls_int (extent_6 f v _ w HV hf.name) rfl (by simp [ext])
  · exact calls_int (extent_7 f v _ w HV) rfl (by simp [ext])
  · exact calls_int (extent_8 f v _ w HV hn) rfl (by simp [ext])
end Go.Proofs.YtlmdafldggbiaaaDoor
