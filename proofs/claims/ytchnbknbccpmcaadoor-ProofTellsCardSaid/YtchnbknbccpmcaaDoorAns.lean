/- What package proof's answer does: what a call gives up with is its error. -/
import Derived.Test.YtchnbknbccpmcaaDoorAsk
import Derived.Defers
import Derived.Recover
namespace Go.Proofs.YtchnbknbccpmcaaDoor
open Go.RowKit
open Go.Proofs.YtchnbknbccpmcaaDoor.H

set_option maxRecDepth 100000 in
theorem catchB_idle (p : Addr) (w : World) :
    CallsD Tryd.prog 46 #[.pointer (some p)] .returning w fun e u' w' => e = .returned (.tuple #[]) ∧ u' = .returning ∧ w' = w := by
  refine callsD_of_wpS Tryd.func46 rfl fun c₀ cs hu => ?_
  apply wpS_seq
  apply wpS_region
  simp [wpOpsS, go_sem, recoverD, hu, Tryd.ntmps46, Exit.thenS]
  refine wpS_of_wp ?_
  have hq : ∀ w : World, (binOp BinOp.eql 20 .nilIface .nilIface).run Tryd.prog w = .ok (.bool true) w := fun _ => by kernel_rfl
  go_wp2_with fail
  cases c₀
  simp_all [bodyPostS, results, Tryd.results46]
set_option maxRecDepth 100000 in
theorem catchB_panicking (g : Nat) (t : TypeId) (u0 ow : Value) (older : List PanicEntry) (w : World) (hr : Row w g 30 [ow]) :
    CallsD Tryd.prog 46 #[.pointer (some ⟨g, 0, none⟩)] (.panicking ({ v := .iface 81 (.agg #[.iface t u0]), recovered := false } :: older)) w fun e u' w' =>
      e = .returned (.tuple #[]) ∧ u' = .panicking ({ v := .iface 81 (.agg #[.iface t u0]), recovered := true } :: older) ∧ w' = (w.alloc (.cells #[.iface t u0] 81)).setCell ⟨g, 0, none⟩ (.iface t u0) := by
  have hr1 : Row (w.alloc (.cells #[.iface t u0] 81)) g 30 [ow] := H.Row.alloc hr _
  have hc1 : (w.alloc (.cells #[.iface t u0] 81)).cell? ⟨g, 0, none⟩ = some ow := hr1.cell 0
  have hz1 := hr1.frozen 0
  clear hr hr1
  refine callsD_of_wpS Tryd.func46 rfl fun c₀ cs hu => ?_
  apply wpS_seq
  apply wpS_region
  simp [wpOpsS, go_sem, recoverD, hu, Tryd.ntmps46, Exit.thenS]
  refine wpS_of_wp ?_
  show Code.wp Tryd.prog _ _ { tmps := #[.pointer (some ⟨g, 0, none⟩), undef, undef, undef, .iface 81 (.agg #[.iface t u0]), undef, undef, undef, undef, undef, undef, undef], defers := [] } w
  have hta : ∀ (v : Value) (w : World), (Instr.typeAssert (.iface 81 v) 20 81 true).run Tryd.prog w = .ok (.tuple #[v, .bool true]) w := fun _ _ => by kernel_rfl
  have hq : ∀ (v : Value) (w : World), (binOp BinOp.eql 20 (.iface 81 v) .nilIface).run Tryd.prog w = .ok (.bool false) w := fun _ _ => by kernel_rfl
  go_wp2_with fail
  cases c₀
  simp_all [bodyPostS, results, Tryd.results46]
set_option maxRecDepth 100000 in
theorem catchN_idle (p : Addr) (w : World) :
    CallsD Tryd.prog 56 #[.pointer (some p)] .returning w fun e u' w' => e = .returned (.tuple #[]) ∧ u' = .returning ∧ w' = w := by
  refine callsD_of_wpS Tryd.func56 rfl fun c₀ cs hu => ?_
  apply wpS_seq
  apply wpS_region
  simp [wpOpsS, go_sem, recoverD, hu, Tryd.ntmps56, Exit.thenS]
  refine wpS_of_wp ?_
  have hq : ∀ w : World, (binOp BinOp.eql 20 .nilIface .nilIface).run Tryd.prog w = .ok (.bool true) w := fun _ => by kernel_rfl
  go_wp2_with fail
  cases c₀
  simp_all [bodyPostS, results, Tryd.results56]
set_option maxRecDepth 100000 in
theorem catchN_panicking (g : Nat) (t : TypeId) (u0 ow : Value) (older : List PanicEntry) (w : World) (hr : Row w g 30 [ow]) :
    CallsD Tryd.prog 56 #[.pointer (some ⟨g, 0, none⟩)] (.panicking ({ v := .iface 81 (.agg #[.iface t u0]), recovered := false } :: older)) w fun e u' w' =>
      e = .returned (.tuple #[]) ∧ u' = .panicking ({ v := .iface 81 (.agg #[.iface t u0]), recovered := true } :: older) ∧ w' = (w.alloc (.cells #[.iface t u0] 81)).setCell ⟨g, 0, none⟩ (.iface t u0) := by
  have hr1 : Row (w.alloc (.cells #[.iface t u0] 81)) g 30 [ow] := H.Row.alloc hr _
  have hc1 : (w.alloc (.cells #[.iface t u0] 81)).cell? ⟨g, 0, none⟩ = some ow := hr1.cell 0
  have hz1 := hr1.frozen 0
  clear hr hr1
  refine callsD_of_wpS Tryd.func56 rfl fun c₀ cs hu => ?_
  apply wpS_seq
  apply wpS_region
  simp [wpOpsS, go_sem, recoverD, hu, Tryd.ntmps56, Exit.thenS]
  refine wpS_of_wp ?_
  show Code.wp Tryd.prog _ _ { tmps := #[.pointer (some ⟨g, 0, none⟩), undef, undef, undef, .iface 81 (.agg #[.iface t u0]), undef, undef, undef, undef, undef, undef, undef], defers := [] } w
  have hta : ∀ (v : Value) (w : World), (Instr.typeAssert (.iface 81 v) 20 81 true).run Tryd.prog w = .ok (.tuple #[v, .bool true]) w := fun _ _ => by kernel_rfl
  have hq : ∀ (v : Value) (w : World), (binOp BinOp.eql 20 (.iface 81 v) .nilIface).run Tryd.prog w = .ok (.bool false) w := fun _ _ => by kernel_rfl
  go_wp2_with fail
  cases c₀
  simp_all [bodyPostS, results, Tryd.results56]
theorem below_alloc' (w : World) (o : Obj) : Below w.heap.size w (w.alloc o) := (Below.refl _ _).alloc (Nat.le_refl _) _
set_option maxRecDepth 100000 in
theorem answerB_ok (f : FuncId) (cap : Array Value) (w : World) (R : Value → World → Prop)
    (hc : ∀ (a : Array Value) (w : World), (callFunc f a).run Tryd.prog w = .ok (.enter f a) w)
    (hf : Calls Tryd.prog f cap (w.alloc (.cells #[.nilIface] 30)) fun e w2 => ∃ v, e = .returned v ∧ R v w2 ∧ Below (w.heap.size + 1) (w.alloc (.cells #[.nilIface] 30)) w2) :
    Calls Tryd.prog 23 #[.func (.func f) #[] cap] w fun e w' => ∃ v w2, e = .returned (.tuple #[v, .nilIface]) ∧ R v w2 ∧ w' = w2.setCell ⟨w.heap.size, 0, none⟩ .nilIface ∧ Below w.heap.size w w' := by
  have hmf : ∀ (fn : Fn) (first cap : Array Value) (w : World), (Instr.makeFunc fn first cap).run Tryd.prog w = .ok (.func fn first cap) w := fun _ _ _ _ => rfl
  have hr0 : Row (w.alloc (.cells #[.nilIface] 30)) w.heap.size 30 [.nilIface] := Row.new w [.nilIface] 30
  have HF := Lib.hid hf
  clear hf
  have hb0 : Below w.heap.size w (w.alloc (.cells #[.nilIface] 30)) := below_alloc' w _
  have HR0 := Lib.hid hr0
  have HB0 := Lib.hid hb0
  clear hr0 hb0
  go_enter_defers Tryd.func23, Tryd.ntmps23
  go_wp2_with fail
  refine HF.out.mono ?_
  rintro e w2 ⟨v, rfl, hR, hb⟩
  have r2 : Row w2 w.heap.size 30 [.nilIface] := H.Row.below HR0.out hb (Nat.lt_succ_self _)
  have c2 := r2.cell 0
  have z2 := r2.frozen 0
  have HR := Lib.hid hR
  have HB := Lib.hid hb
  clear hR hb HF
  simp only [List.getElem?_cons_zero] at c2
  go_wp2_with fail
  refine leaves_cons (f := 46) (args := #[.pointer (some ⟨w.heap.size, 0, none⟩)]) (by simp) (by simp [go_sem]) ?_
  refine (catchB_idle ⟨w.heap.size, 0, none⟩ _).mono ?_
  rintro e u' w'' ⟨rfl, rfl, rfl⟩
  have r3 := r2.set 0 .nilIface
  have c3 := r3.cell 0
  simp only [List.set_cons_zero, List.getElem?_cons_zero] at c3
  have hfin : Below w.heap.size w (w2.setCell ⟨w.heap.size, 0, none⟩ .nilIface) := (HB0.out.trans (HB.out.mono (Nat.le_succ _))).setCell (Nat.le_refl _) _
  simp [Leaves, settle, results, Tryd.results23, go_sem, c3]
  exact ⟨w2, HR.out, rfl, hfin⟩
set_option maxRecDepth 100000 in
theorem answerB_bad (f : FuncId) (cap : Array Value) (t : TypeId) (u : Value) (w : World)
    (hc : ∀ (a : Array Value) (w : World), (callFunc f a).run Tryd.prog w = .ok (.enter f a) w)
    (hf : Calls Tryd.prog f cap (w.alloc (.cells #[.nilIface] 30)) fun e w2 => e = .panicked [{ v := .iface 81 (.agg #[.iface t u]), recovered := false }] ∧ Below (w.heap.size + 1) (w.alloc (.cells #[.nilIface] 30)) w2) :
    Calls Tryd.prog 23 #[.func (.func f) #[] cap] w fun e w' => e = .returned (.tuple #[.slice none 0 0, .iface t u]) ∧ Below w.heap.size w w' := by
  have hmf : ∀ (fn : Fn) (first cap : Array Value) (w : World), (Instr.makeFunc fn first cap).run Tryd.prog w = .ok (.func fn first cap) w := fun _ _ _ _ => rfl
  have HR0 : Hid (Row (w.alloc (.cells #[.nilIface] 30)) w.heap.size 30 [.nilIface]) := Lib.hid (Row.new w [.nilIface] 30)
  have HF := Lib.hid hf
  clear hf
  have HB0 : Hid (Below w.heap.size w (w.alloc (.cells #[.nilIface] 30))) := Lib.hid (below_alloc' w _)
  go_enter_defers Tryd.func23, Tryd.ntmps23
  go_wp2_with fail
  refine HF.out.mono ?_
  rintro e w2 ⟨rfl, hb⟩
  have r2 : Row w2 w.heap.size 30 [.nilIface] := H.Row.below HR0.out hb (Nat.lt_succ_self _)
  have HB := Lib.hid hb
  clear hb HF
  go_wp2_with fail
  refine leaves_cons (f := 46) (args := #[.pointer (some ⟨w.heap.size, 0, none⟩)]) (by simp) (by simp [go_sem]) ?_
  refine (catchB_panicking w.heap.size t u .nilIface [] _ r2).mono ?_
  rintro e u' w'' ⟨rfl, rfl, rfl⟩
  have r3 := (H.Row.alloc r2 (.cells #[.iface t u] 81)).set 0 (.iface t u)
  have c3 := r3.cell 0
  simp only [List.set_cons_zero, List.getElem?_cons_zero] at c3
  have hfin : Below w.heap.size w ((w2.alloc (.cells #[.iface t u] 81)).setCell ⟨w.heap.size, 0, none⟩ (.iface t u)) := ((HB0.out.trans (HB.out.mono (Nat.le_succ _))).alloc (Nat.le_trans (Nat.le_of_lt (Nat.lt_succ_self _)) (Nat.succ_le_of_lt r2.lt)) _).setCell (Nat.le_refl _) _
  simp [Leaves, settle, results, Tryd.results23, go_sem, c3]
  exact hfin
set_option maxRecDepth 100000 in
theorem answerN_ok (f : FuncId) (cap : Array Value) (w : World) (R : Value → World → Prop)
    (hc : ∀ (a : Array Value) (w : World), (callFunc f a).run Tryd.prog w = .ok (.enter f a) w)
    (hf : Calls Tryd.prog f cap (w.alloc (.cells #[.nilIface] 30)) fun e w2 => ∃ v, e = .returned v ∧ R v w2 ∧ Below (w.heap.size + 1) (w.alloc (.cells #[.nilIface] 30)) w2) :
    Calls Tryd.prog 33 #[.func (.func f) #[] cap] w fun e w' => ∃ v w2, e = .returned (.tuple #[v, .nilIface]) ∧ R v w2 ∧ w' = w2.setCell ⟨w.heap.size, 0, none⟩ .nilIface ∧ Below w.heap.size w w' := by
  have hmf : ∀ (fn : Fn) (first cap : Array Value) (w : World), (Instr.makeFunc fn first cap).run Tryd.prog w = .ok (.func fn first cap) w := fun _ _ _ _ => rfl
  have hr0 : Row (w.alloc (.cells #[.nilIface] 30)) w.heap.size 30 [.nilIface] := Row.new w [.nilIface] 30
  have HF := Lib.hid hf
  clear hf
  have hb0 : Below w.heap.size w (w.alloc (.cells #[.nilIface] 30)) := below_alloc' w _
  have HR0 := Lib.hid hr0
  have HB0 := Lib.hid hb0
  clear hr0 hb0
  go_enter_defers Tryd.func33, Tryd.ntmps33
  go_wp2_with fail
  refine HF.out.mono ?_
  rintro e w2 ⟨v, rfl, hR, hb⟩
  have r2 : Row w2 w.heap.size 30 [.nilIface] := H.Row.below HR0.out hb (Nat.lt_succ_self _)
  have c2 := r2.cell 0
  have z2 := r2.frozen 0
  have HR := Lib.hid hR
  have HB := Lib.hid hb
  clear hR hb HF
  simp only [List.getElem?_cons_zero] at c2
  go_wp2_with fail
  refine leaves_cons (f := 56) (args := #[.pointer (some ⟨w.heap.size, 0, none⟩)]) (by simp) (by simp [go_sem]) ?_
  refine (catchN_idle ⟨w.heap.size, 0, none⟩ _).mono ?_
  rintro e u' w'' ⟨rfl, rfl, rfl⟩
  have r3 := r2.set 0 .nilIface
  have c3 := r3.cell 0
  simp only [List.set_cons_zero, List.getElem?_cons_zero] at c3
  have hfin : Below w.heap.size w (w2.setCell ⟨w.heap.size, 0, none⟩ .nilIface) := (HB0.out.trans (HB.out.mono (Nat.le_succ _))).setCell (Nat.le_refl _) _
  simp [Leaves, settle, results, Tryd.results33, go_sem, c3]
  exact ⟨w2, HR.out, rfl, hfin⟩
set_option maxRecDepth 100000 in
theorem answerN_bad (f : FuncId) (cap : Array Value) (t : TypeId) (u : Value) (w : World)
    (hc : ∀ (a : Array Value) (w : World), (callFunc f a).run Tryd.prog w = .ok (.enter f a) w)
    (hf : Calls Tryd.prog f cap (w.alloc (.cells #[.nilIface] 30)) fun e w2 => e = .panicked [{ v := .iface 81 (.agg #[.iface t u]), recovered := false }] ∧ Below (w.heap.size + 1) (w.alloc (.cells #[.nilIface] 30)) w2) :
    Calls Tryd.prog 33 #[.func (.func f) #[] cap] w fun e w' => e = .returned (.tuple #[.int .i64 0, .iface t u]) ∧ Below w.heap.size w w' := by
  have hmf : ∀ (fn : Fn) (first cap : Array Value) (w : World), (Instr.makeFunc fn first cap).run Tryd.prog w = .ok (.func fn first cap) w := fun _ _ _ _ => rfl
  have HR0 : Hid (Row (w.alloc (.cells #[.nilIface] 30)) w.heap.size 30 [.nilIface]) := Lib.hid (Row.new w [.nilIface] 30)
  have HF := Lib.hid hf
  clear hf
  have HB0 : Hid (Below w.heap.size w (w.alloc (.cells #[.nilIface] 30))) := Lib.hid (below_alloc' w _)
  go_enter_defers Tryd.func33, Tryd.ntmps33
  go_wp2_with fail
  refine HF.out.mono ?_
  rintro e w2 ⟨rfl, hb⟩
  have r2 : Row w2 w.heap.size 30 [.nilIface] := H.Row.below HR0.out hb (Nat.lt_succ_self _)
  have HB := Lib.hid hb
  clear hb HF
  go_wp2_with fail
  refine leaves_cons (f := 56) (args := #[.pointer (some ⟨w.heap.size, 0, none⟩)]) (by simp) (by simp [go_sem]) ?_
  refine (catchN_panicking w.heap.size t u .nilIface [] _ r2).mono ?_
  rintro e u' w'' ⟨rfl, rfl, rfl⟩
  have r3 := (H.Row.alloc r2 (.cells #[.iface t u] 81)).set 0 (.iface t u)
  have c3 := r3.cell 0
  simp only [List.set_cons_zero, List.getElem?_cons_zero] at c3
  have hfin : Below w.heap.size w ((w2.alloc (.cells #[.iface t u] 81)).setCell ⟨w.heap.size, 0, none⟩ (.iface t u)) := ((HB0.out.trans (HB.out.mono (Nat.le_succ _))).alloc (Nat.le_trans (Nat.le_of_lt (Nat.lt_succ_self _)) (Nat.succ_le_of_lt r2.lt)) _).setCell (Nat.le_refl _) _
  simp [Leaves, settle, results, Tryd.results33, go_sem, c3]
  exact hfin
end Go.Proofs.YtchnbknbccpmcaaDoor
