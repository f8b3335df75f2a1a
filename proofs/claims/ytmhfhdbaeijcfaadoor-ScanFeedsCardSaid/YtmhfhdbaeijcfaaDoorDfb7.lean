/- The document's Same: two frames of which a field differs. -/
import Derived.Test.YtmhfhdbaeijcfaaDoorGD
import Derived.Test.YtmhfhdbaeijcfaaDoorSam
import Derived.Test.YtmhfhdbaeijcfaaDoorDf
import Derived.BigQuiet
namespace Go.Proofs.YtmhfhdbaeijcfaaDoor
open Go.RowKit
open Go.Proofs.YtmhfhdbaeijcfaaDoor.H

set_option maxRecDepth 100000 in
set_option maxHeartbeats 4000000 in
theorem differ22_7 (x0 : Int) (x1 : Int) (x2 : Int) (x3 : Int) (x4 : Int) (x5 : Int) (x6 : ByteArray) (x7 y7 : ByteArray) (ne : x7 ≠ y7) (x8 y8 : Value) (x9 y9 : Value) (v u : Value) (w : World) (HV : Hid (v = .agg [.int .i64 x0, .int .i64 x1, .int .i64 x2, .int .i64 x3, .int .i64 x4, .int .i64 x5, .string x6, .string x7, x8, x9].toArray)) (HU : Hid (u = .agg [.int .i64 x0, .int .i64 x1, .int .i64 x2, .int .i64 x3, .int .i64 x4, .int .i64 x5, .string x6, .string y7, y8, y9].toArray)) :
    Calls Tryd.prog 22 #[v, u] w fun e w' => e = .returned (.bool false) ∧ Hid (Below w.heap.size w w') := by
  have q := toList_ne ne
  go_enter Tryd.func22, Tryd.ntmps22
  go_wp2_with (first
    | (refine wl_box (o := ⟨some 2, _, _, _, _, _⟩) rfl 25 (.tmp 0) rfl _ HV.out ?_
       intro w1 HA1 HB1 HZ1
       have hz1 : w.heap.size < w1.heap.size := by rw [HZ1.out]; omega)
    | (refine wl_box (o := ⟨some 3, _, _, _, _, _⟩) rfl 25 (.tmp 1) rfl _ HU.out ?_
       intro w2 HA2 HB2 HZ2
       have HA3 := Lib.hid (HA1.out.below HB2.out hz1)
       have c0 : w2.cell? ⟨w.heap.size, 0, none⟩ = some (.int .i64 x0) := HA3.out.cell 0
       have d0 : w2.cell? ⟨w1.heap.size, 0, none⟩ = some (.int .i64 x0) := HA2.out.cell 0
       have c1 : w2.cell? ⟨w.heap.size, 1, none⟩ = some (.int .i64 x1) := HA3.out.cell 1
       have d1 : w2.cell? ⟨w1.heap.size, 1, none⟩ = some (.int .i64 x1) := HA2.out.cell 1
       have c2 : w2.cell? ⟨w.heap.size, 2, none⟩ = some (.int .i64 x2) := HA3.out.cell 2
       have d2 : w2.cell? ⟨w1.heap.size, 2, none⟩ = some (.int .i64 x2) := HA2.out.cell 2
       have c3 : w2.cell? ⟨w.heap.size, 3, none⟩ = some (.int .i64 x3) := HA3.out.cell 3
       have d3 : w2.cell? ⟨w1.heap.size, 3, none⟩ = some (.int .i64 x3) := HA2.out.cell 3
       have c4 : w2.cell? ⟨w.heap.size, 4, none⟩ = some (.int .i64 x4) := HA3.out.cell 4
       have d4 : w2.cell? ⟨w1.heap.size, 4, none⟩ = some (.int .i64 x4) := HA2.out.cell 4
       have c5 : w2.cell? ⟨w.heap.size, 5, none⟩ = some (.int .i64 x5) := HA3.out.cell 5
       have d5 : w2.cell? ⟨w1.heap.size, 5, none⟩ = some (.int .i64 x5) := HA2.out.cell 5
       have c6 : w2.cell? ⟨w.heap.size, 6, none⟩ = some (.string x6) := HA3.out.cell 6
       have d6 : w2.cell? ⟨w1.heap.size, 6, none⟩ = some (.string x6) := HA2.out.cell 6
       have c7 : w2.cell? ⟨w.heap.size, 7, none⟩ = some (.string x7) := HA3.out.cell 7
       have d7 : w2.cell? ⟨w1.heap.size, 7, none⟩ = some (.string y7) := HA2.out.cell 7
       clear HA1 HZ1 HA2 HZ2 HA3))
  have HBW2 := Lib.hid (HB1.out.trans (HB2.out.mono (Nat.le_of_lt hz1)))
  refine wp_region_quiet_lit (by kernel_rfl) (by kernel_rfl) ?_
  dsimp only [List.append]
  repeat (first | go_big_quiet_step (fail) | quiet_step (fail))
  refine wpQuiet_nil ?_
  intro _ hw'
  obtain ⟨nq, hw''⟩ := hw'
  subst hw''
  go_wp2_with fail
  go_ret
  exact ⟨rfl, Lib.hid (below_drewN HBW2.out _)⟩
end Go.Proofs.YtmhfhdbaeijcfaaDoor
