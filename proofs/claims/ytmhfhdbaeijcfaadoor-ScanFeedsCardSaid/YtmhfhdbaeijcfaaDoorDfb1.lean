/- The document's Same: two frames of which a field differs. -/
import Derived.Test.YtmhfhdbaeijcfaaDoorGD
import Derived.Test.YtmhfhdbaeijcfaaDoorSam
import Derived.Test.YtmhfhdbaeijcfaaDoorDf
import Derived.BigQuiet
namespace Go.Proofs.YtmhfhdbaeijcfaaDoor
open Go.RowKit
open Go.Proofs.YtmhfhdbaeijcfaaDoor.H

set_option maxRecDepth 100000 in
set_option maxHeartbeats 4000000 in
theorem differ22_1 (x0 : Int) (x1 y1 : Int) (ne : x1 ≠ y1) (x2 y2 : Value) (x3 y3 : Value) (x4 y4 : Value) (x5 y5 : Value) (x6 y6 : Value) (x7 y7 : Value) (x8 y8 : Value) (x9 y9 : Value) (v u : Value) (w : World) (HV : Hid (v = .agg [.int .i64 x0, .int .i64 x1, x2, x3, x4, x5, x6, x7, x8, x9].toArray)) (HU : Hid (u = .agg [.int .i64 x0, .int .i64 y1, y2, y3, y4, y5, y6, y7, y8, y9].toArray)) :
    Calls Tryd.prog 22 #[v, u] w fun e w' => e = .returned (.bool false) ∧ Hid (Below w.heap.size w w') := by
  have q : (x1 == y1) = false := by simpa using ne
  go_enter Tryd.func22, Tryd.ntmps22
  go_wp2_with (first
    | (refine wl_box (o := ⟨some 2, _, _, _, _, _⟩) rfl 25 (.tmp 0) rfl _ HV.out ?_
       intro w1 HA1 HB1 HZ1
       have hz1 : w.heap.size < w1.heap.size := by rw [HZ1.out]; omega)
    | (refine wl_box (o := ⟨some 3, _, _, _, _, _⟩) rfl 25 (.tmp 1) rfl _ HU.out ?_
       intro w2 HA2 HB2 HZ2
       have HA3 := Lib.hid (HA1.out.below HB2.out hz1)
       have c0 : w2.cell? ⟨w.heap.size, 0, none⟩ = some (.int .i64 x0) := HA3.out.cell 0
       have d0 : w2.cell? ⟨w1.heap.size, 0, none⟩ = some (.int .i64 x0) := HA2.out.cell 0
       have c1 : w2.cell? ⟨w.heap.size, 1, none⟩ = some (.int .i64 x1) := HA3.out.cell 1
       have d1 : w2.cell? ⟨w1.heap.size, 1, none⟩ = some (.int .i64 y1) := HA2.out.cell 1
       clear HA1 HZ1 HA2 HZ2 HA3))
  have HBW2 := Lib.hid (HB1.out.trans (HB2.out.mono (Nat.le_of_lt hz1)))
  refine wp_region_quiet_lit (by kernel_rfl) (by kernel_rfl) ?_
  dsimp only [List.append]
  repeat (first | go_big_quiet_step (fail) | quiet_step (fail))
  refine wpQuiet_nil ?_
  intro _ hw'
  obtain ⟨nq, hw''⟩ := hw'
  subst hw''
  go_wp2_with fail
  go_ret
  exact ⟨rfl, Lib.hid (below_drewN HBW2.out _)⟩
end Go.Proofs.YtmhfhdbaeijcfaaDoor
