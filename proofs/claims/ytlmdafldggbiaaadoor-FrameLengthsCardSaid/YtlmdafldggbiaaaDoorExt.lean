/- What bounds, bytesBounds and extent answer. -/
import Derived.Test.YtlmdafldggbiaaaDoorFr
namespace Go.Proofs.YtlmdafldggbiaaaDoor
open Go.RowKit
open Go.Proofs.YtlmdafldggbiaaaDoor.H

theorem wl_box {w : World} {ops : Array Oper} {rest : List Oper} {o : Oper} {a : Act} {Q : Exit → Act → World → Prop} (hgd : o.guard = none) (t : TypeId) (x : Operand) (ho : o.op = .box t x) (cs : List Value) (hx : a.eval x = .agg cs.toArray)
    (h : ∀ w', Hid (Row w' w.heap.size t cs) → Hid (Below w.heap.size w w') → Hid (w'.heap.size = w.heap.size + 1) → wpList Tryd.prog ops Q rest (a.put o.dst (.pointer (some ⟨w.heap.size, 0, none⟩))) w') :
    wpList Tryd.prog ops Q (o :: rest) a w := by
  refine wpList_plain hgd fun K hK => ?_
  unfold Oper.wp execOp
  simp only [ho, Sem.run_bind, Instr.box, newVar, newRow, run_newObj_alloc, Sem.run_pure, Result.andThen_ok, hx, Value.cells]
  exact hK _ _ (h _ (Row.new w cs t) ((Below.refl _ _).alloc (Nat.le_refl _) _) (by show (w.alloc _).heap.size = _; simp))

set_option maxRecDepth 100000 in
theorem bytesBounds_any (k : Int) (w : World) : Calls Tryd.prog 52 #[.int .i64 k] w fun e w' => e = .returned (.tuple #[.int .i64 (blo k), .int .i64 (bhi k)]) ∧ w = w' := by
  by_cases h1 : k = 1
  · subst h1
    go_enter Tryd.func52, Tryd.ntmps52
    go_wp2_with fail
    go_ret2
    exact ⟨rfl, rfl⟩
  by_cases h3 : k = 3
  · subst h3
    go_enter Tryd.func52, Tryd.ntmps52
    go_wp2_with fail
    go_ret2
    exact ⟨rfl, rfl⟩
  by_cases h9 : k = 9
  · subst h9
    go_enter Tryd.func52, Tryd.ntmps52
    go_wp2_with fail
    go_ret2
    exact ⟨rfl, rfl⟩
  have b1 : (k == 1) = false := by simp; exact h1
  have b3 : (k == 3) = false := by simp; exact h3
  have b9 : (k == 9) = false := by simp; exact h9
  have HB : Hid (blo k = 1 ∧ bhi k = 32) := Lib.hid (by simp [blo, bhi, h1, h3, h9])
  clear h1 h3 h9
  go_enter Tryd.func52, Tryd.ntmps52
  go_wp2_with fail
  go_ret2
  exact ⟨by rw [HB.out.1, HB.out.2]; rfl, rfl⟩

set_option maxRecDepth 100000 in
theorem bounds_any (k : Int) (x : Nat) (w : World) (hx : x < 9) : Calls Tryd.prog 35 #[.int .i64 k, .int .i64 (x : Int)] w fun e w' => e = .returned (.tuple #[.int .i64 (lo k x), .int .i64 (hi k x)]) ∧ w = w' := by
  match x, hx with
  | 0, _ =>
    go_enter Tryd.func35, Tryd.ntmps35
    go_wp2_with fail
    go_ret2
    exact ⟨rfl, rfl⟩
  | 1, _ =>
    go_enter Tryd.func35, Tryd.ntmps35
    go_wp2_with fail
    go_ret2
    exact ⟨rfl, rfl⟩
  | 2, _ =>
    go_enter Tryd.func35, Tryd.ntmps35
    go_wp2_with fail
    go_ret2
    exact ⟨rfl, rfl⟩
  | 3, _ =>
    go_enter Tryd.func35, Tryd.ntmps35
    go_wp2_with fail
    go_ret2
    exact ⟨rfl, rfl⟩
  | 4, _ =>
    go_enter Tryd.func35, Tryd.ntmps35
    go_wp2_with fail
    go_ret2
    exact ⟨rfl, rfl⟩
  | 5, _ =>
    go_enter Tryd.func35, Tryd.ntmps35
    go_wp2_with fail
    go_ret2
    exact ⟨rfl, rfl⟩
  | 6, _ =>
    go_enter Tryd.func35, Tryd.ntmps35
    go_wp2_with fail
    go_ret2
    exact ⟨rfl, rfl⟩
  | 7, _ =>
    go_enter Tryd.func35, Tryd.ntmps35
    go_wp2_with fail
    go_ret2
    exact ⟨rfl, rfl⟩
  | 8, _ =>
    go_enter Tryd.func35, Tryd.ntmps35
    go_wp2_with fail
    with_reducible refine (bytesBounds_any k w).mono ?_
    rintro e _ ⟨rfl, rfl⟩
    go_wp2_with fail
    go_ret2
    exact ⟨rfl, rfl⟩

set_option maxRecDepth 100000 in
theorem extent_0 (f : Fr) (v : Value) (n : Nat) (w : World) (HV : Hid (v = .agg (f.cells n).toArray)) : Calls Tryd.prog 36 #[v, .int .i64 0] w fun e w' => e = .returned (.int .i64 f.seq) ∧ Hid (Below w.heap.size w w') := by
  go_enter Tryd.func36, Tryd.ntmps36
  go_wp2_with (first
    | (refine wl_box rfl 25 (.tmp 0) rfl (f.cells n) HV.out ?_
       intro w1 HA1 HB1 HZ1
       have c1 : w1.cell? ⟨w.heap.size, 1, none⟩ = some (.int .i64 f.seq) := HA1.out.cell 1))
  go_ret
  exact ⟨rfl, HB1⟩
set_option maxRecDepth 100000 in
theorem extent_1 (f : Fr) (v : Value) (n : Nat) (w : World) (HV : Hid (v = .agg (f.cells n).toArray)) : Calls Tryd.prog 36 #[v, .int .i64 1] w fun e w' => e = .returned (.int .i64 f.got) ∧ Hid (Below w.heap.size w w') := by
  go_enter Tryd.func36, Tryd.ntmps36
  go_wp2_with (first
    | (refine wl_box rfl 25 (.tmp 0) rfl (f.cells n) HV.out ?_
       intro w1 HA1 HB1 HZ1
       have c2 : w1.cell? ⟨w.heap.size, 2, none⟩ = some (.int .i64 f.got) := HA1.out.cell 2))
  go_ret
  exact ⟨rfl, HB1⟩
set_option maxRecDepth 100000 in
theorem extent_2 (f : Fr) (v : Value) (n : Nat) (w : World) (HV : Hid (v = .agg (f.cells n).toArray)) : Calls Tryd.prog 36 #[v, .int .i64 2] w fun e w' => e = .returned (.int .i64 f.stream) ∧ Hid (Below w.heap.size w w') := by
  go_enter Tryd.func36, Tryd.ntmps36
  go_wp2_with (first
    | (refine wl_box rfl 25 (.tmp 0) rfl (f.cells n) HV.out ?_
       intro w1 HA1 HB1 HZ1
       have c3 : w1.cell? ⟨w.heap.size, 3, none⟩ = some (.int .i64 f.stream) := HA1.out.cell 3))
  go_ret
  exact ⟨rfl, HB1⟩
set_option maxRecDepth 100000 in
theorem extent_3 (f : Fr) (v : Value) (n : Nat) (w : World) (HV : Hid (v = .agg (f.cells n).toArray)) : Calls Tryd.prog 36 #[v, .int .i64 3] w fun e w' => e = .returned (.int .i64 f.amount) ∧ Hid (Below w.heap.size w w') := by
  go_enter Tryd.func36, Tryd.ntmps36
  go_wp2_with (first
    | (refine wl_box rfl 25 (.tmp 0) rfl (f.cells n) HV.out ?_
       intro w1 HA1 HB1 HZ1
       have c4 : w1.cell? ⟨w.heap.size, 4, none⟩ = some (.int .i64 f.amount) := HA1.out.cell 4))
  go_ret
  exact ⟨rfl, HB1⟩
set_option maxRecDepth 100000 in
theorem extent_4 (f : Fr) (v : Value) (n : Nat) (w : World) (HV : Hid (v = .agg (f.cells n).toArray)) : Calls Tryd.prog 36 #[v, .int .i64 4] w fun e w' => e = .returned (.int .i64 f.code) ∧ Hid (Below w.heap.size w w') := by
  go_enter Tryd.func36, Tryd.ntmps36
  go_wp2_with (first
    | (refine wl_box rfl 25 (.tmp 0) rfl (f.cells n) HV.out ?_
       intro w1 HA1 HB1 HZ1
       have c5 : w1.cell? ⟨w.heap.size, 5, none⟩ = some (.int .i64 f.code) := HA1.out.cell 5))
  go_ret
  exact ⟨rfl, HB1⟩
set_option maxRecDepth 100000 in
theorem extent_5 (f : Fr) (v : Value) (n : Nat) (w : World) (HV : Hid (v = .agg (f.cells n).toArray)) (hw : f.who.size ≤ 9223372036854775807) : Calls Tryd.prog 36 #[v, .int .i64 5] w fun e w' => e = .returned (.int .i64 (f.who.size : Int)) ∧ Hid (Below w.heap.size w w') := by
  go_enter Tryd.func36, Tryd.ntmps36
  go_wp2_with (first
    | (refine wl_box rfl 25 (.tmp 0) rfl (f.cells n) HV.out ?_
       intro w1 HA1 HB1 HZ1
       have c6 : w1.cell? ⟨w.heap.size, 6, none⟩ = some (.string f.who) := HA1.out.cell 6))
  go_ret
  exact ⟨rfl, HB1⟩
set_option maxRecDepth 100000 in
theorem extent_6 (f : Fr) (v : Value) (n : Nat) (w : World) (HV : Hid (v = .agg (f.cells n).toArray)) (hw : f.name.size ≤ 9223372036854775807) : Calls Tryd.prog 36 #[v, .int .i64 6] w fun e w' => e = .returned (.int .i64 (f.name.size : Int)) ∧ Hid (Below w.heap.size w w') := by
  go_enter Tryd.func36, Tryd.ntmps36
  go_wp2_with (first
    | (refine wl_box rfl 25 (.tmp 0) rfl (f.cells n) HV.out ?_
       intro w1 HA1 HB1 HZ1
       have c7 : w1.cell? ⟨w.heap.size, 7, none⟩ = some (.string f.name) := HA1.out.cell 7))
  go_ret
  exact ⟨rfl, HB1⟩
set_option maxRecDepth 100000 in
theorem extent_7 (f : Fr) (v : Value) (n : Nat) (w : World) (HV : Hid (v = .agg (f.cells n).toArray)) : Calls Tryd.prog 36 #[v, .int .i64 7] w fun e w' => e = .returned (.int .i64 (wrap64 (f.weight : Int))) ∧ Hid (Below w.heap.size w w') := by
  have hbt := F.run_bits
  go_enter Tryd.func36, Tryd.ntmps36
  go_wp2_with (first
    | (refine wl_box rfl 25 (.tmp 0) rfl (f.cells n) HV.out ?_
       intro w1 HA1 HB1 HZ1
       have c8 : w1.cell? ⟨w.heap.size, 8, none⟩ = some (.float .f64 f.weight) := HA1.out.cell 8))
  go_ret
  exact ⟨rfl, HB1⟩
set_option maxRecDepth 100000 in
theorem extent_8 (f : Fr) (v : Value) (n : Nat) (w : World) (HV : Hid (v = .agg (f.cells n).toArray)) (hw : n ≤ 9223372036854775807) : Calls Tryd.prog 36 #[v, .int .i64 8] w fun e w' => e = .returned (.int .i64 (n : Int)) ∧ Hid (Below w.heap.size w w') := by
  go_enter Tryd.func36, Tryd.ntmps36
  go_wp2_with (first
    | (refine wl_box rfl 25 (.tmp 0) rfl (f.cells n) HV.out ?_
       intro w1 HA1 HB1 HZ1
       have c9 : w1.cell? ⟨w.heap.size, 9, none⟩ = some (.slice f.ba n f.bc) := HA1.out.cell 9))
  go_ret
  exact ⟨rfl, HB1⟩
end Go.Proofs.YtlmdafldggbiaaaDoor
