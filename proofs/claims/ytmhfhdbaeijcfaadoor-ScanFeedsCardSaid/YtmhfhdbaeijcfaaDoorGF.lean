/- What frame.setField does: one field of a frame that lies in a variable is set. What frame.opened answers: the frame of an encoding's bytes ahead of the check, or an error. frame.opened: an error where the bytes are no frame's; else the frame. frame.opened of bytes that are a frame's. frame.Get where the length that the bytes tell is not their length, or they are too few or too many: ErrFrame. frame.Get: the frame of bytes that are an encoding; of all others ErrFrame. -/
import Derived.Test.YtmhfhdbaeijcfaaDoorGE
import Derived.Deep.RegionLaw
namespace Go.Proofs.YtmhfhdbaeijcfaaDoor
open Go.RowKit
open Go.Proofs.YtmhfhdbaeijcfaaDoor.H
attribute [local go_sem] F.run_store_f64

set_option maxRecDepth 100000 in
theorem setField_0 (f : Fr) (m : Nat) (c : F.FC) (g : Nat) (w : World) (hr : Row w g 25 (f.cells m)) :
    Calls Tryd.prog 67 #[.pointer (some ⟨g, 0, none⟩), .int .i64 0, c.v] w fun e w' => e = .returned (.tuple #[]) ∧ Hid (Row w' g 25 ((setF f 0 c none 0).cells m) ∧ Sole g w w') := by
  have HR := Lib.hid hr
  have hg := hr.lt
  clear hr
  have HV : Hid (c.v = .agg [Value.int .i64 c.n, Value.float .f64 c.f, Value.string c.s].toArray) := Lib.hid rfl
  generalize c.v = cv at *
  go_enter Tryd.func67, Tryd.ntmps67
  go_wp2_with (first
    | (refine wl_box rfl 76 (.tmp 2) rfl [Value.int .i64 c.n, Value.float .f64 c.f, Value.string c.s] HV.out ?_
       intro w1 HA1 HB1 HZ1
       have c1 : w1.cell? ⟨w.heap.size, 0, none⟩ = some (.int .i64 c.n) := HA1.out.cell 0
       have HR1 := Lib.hid (HR.out.below HB1.out hg)
       have o1 : w1.cell? ⟨g, 1, none⟩ = some (.int .i64 f.seq) := HR1.out.cell 1
       have fz : w1.frozen? ⟨g, 1, none⟩ = false := HR1.out.frozen 1))
  go_end0
  exact ⟨rfl, Lib.hid ⟨HR1.out.set 1 _, (Sole.of_below HB1.out).setCell 1 _⟩⟩

set_option maxRecDepth 100000 in
theorem setField_1 (f : Fr) (m : Nat) (c : F.FC) (g : Nat) (w : World) (hr : Row w g 25 (f.cells m)) :
    Calls Tryd.prog 67 #[.pointer (some ⟨g, 0, none⟩), .int .i64 1, c.v] w fun e w' => e = .returned (.tuple #[]) ∧ Hid (Row w' g 25 ((setF f 1 c none 0).cells m) ∧ Sole g w w') := by
  have HR := Lib.hid hr
  have hg := hr.lt
  clear hr
  have HV : Hid (c.v = .agg [Value.int .i64 c.n, Value.float .f64 c.f, Value.string c.s].toArray) := Lib.hid rfl
  generalize c.v = cv at *
  go_enter Tryd.func67, Tryd.ntmps67
  go_wp2_with (first
    | (refine wl_box rfl 76 (.tmp 2) rfl [Value.int .i64 c.n, Value.float .f64 c.f, Value.string c.s] HV.out ?_
       intro w1 HA1 HB1 HZ1
       have c1 : w1.cell? ⟨w.heap.size, 0, none⟩ = some (.int .i64 c.n) := HA1.out.cell 0
       have HR1 := Lib.hid (HR.out.below HB1.out hg)
       have o1 : w1.cell? ⟨g, 2, none⟩ = some (.int .i64 f.got) := HR1.out.cell 2
       have fz : w1.frozen? ⟨g, 2, none⟩ = false := HR1.out.frozen 2))
  go_end0
  exact ⟨rfl, Lib.hid ⟨HR1.out.set 2 _, (Sole.of_below HB1.out).setCell 2 _⟩⟩

set_option maxRecDepth 100000 in
theorem setField_2 (f : Fr) (m : Nat) (c : F.FC) (g : Nat) (w : World) (hr : Row w g 25 (f.cells m)) :
    Calls Tryd.prog 67 #[.pointer (some ⟨g, 0, none⟩), .int .i64 2, c.v] w fun e w' => e = .returned (.tuple #[]) ∧ Hid (Row w' g 25 ((setF f 2 c none 0).cells m) ∧ Sole g w w') := by
  have HR := Lib.hid hr
  have hg := hr.lt
  clear hr
  have HV : Hid (c.v = .agg [Value.int .i64 c.n, Value.float .f64 c.f, Value.string c.s].toArray) := Lib.hid rfl
  generalize c.v = cv at *
  go_enter Tryd.func67, Tryd.ntmps67
  go_wp2_with (first
    | (refine wl_box rfl 76 (.tmp 2) rfl [Value.int .i64 c.n, Value.float .f64 c.f, Value.string c.s] HV.out ?_
       intro w1 HA1 HB1 HZ1
       have c1 : w1.cell? ⟨w.heap.size, 0, none⟩ = some (.int .i64 c.n) := HA1.out.cell 0
       have HR1 := Lib.hid (HR.out.below HB1.out hg)
       have o1 : w1.cell? ⟨g, 3, none⟩ = some (.int .i64 f.stream) := HR1.out.cell 3
       have fz : w1.frozen? ⟨g, 3, none⟩ = false := HR1.out.frozen 3))
  go_end0
  exact ⟨rfl, Lib.hid ⟨HR1.out.set 3 _, (Sole.of_below HB1.out).setCell 3 _⟩⟩

set_option maxRecDepth 100000 in
theorem setField_3 (f : Fr) (m : Nat) (c : F.FC) (g : Nat) (w : World) (hr : Row w g 25 (f.cells m)) :
    Calls Tryd.prog 67 #[.pointer (some ⟨g, 0, none⟩), .int .i64 3, c.v] w fun e w' => e = .returned (.tuple #[]) ∧ Hid (Row w' g 25 ((setF f 3 c none 0).cells m) ∧ Sole g w w') := by
  have HR := Lib.hid hr
  have hg := hr.lt
  clear hr
  have HV : Hid (c.v = .agg [Value.int .i64 c.n, Value.float .f64 c.f, Value.string c.s].toArray) := Lib.hid rfl
  generalize c.v = cv at *
  go_enter Tryd.func67, Tryd.ntmps67
  go_wp2_with (first
    | (refine wl_box rfl 76 (.tmp 2) rfl [Value.int .i64 c.n, Value.float .f64 c.f, Value.string c.s] HV.out ?_
       intro w1 HA1 HB1 HZ1
       have c1 : w1.cell? ⟨w.heap.size, 0, none⟩ = some (.int .i64 c.n) := HA1.out.cell 0
       have HR1 := Lib.hid (HR.out.below HB1.out hg)
       have o1 : w1.cell? ⟨g, 4, none⟩ = some (.int .i64 f.amount) := HR1.out.cell 4
       have fz : w1.frozen? ⟨g, 4, none⟩ = false := HR1.out.frozen 4))
  go_end0
  exact ⟨rfl, Lib.hid ⟨HR1.out.set 4 _, (Sole.of_below HB1.out).setCell 4 _⟩⟩

set_option maxRecDepth 100000 in
theorem setField_4 (f : Fr) (m : Nat) (c : F.FC) (g : Nat) (w : World) (hr : Row w g 25 (f.cells m)) :
    Calls Tryd.prog 67 #[.pointer (some ⟨g, 0, none⟩), .int .i64 4, c.v] w fun e w' => e = .returned (.tuple #[]) ∧ Hid (Row w' g 25 ((setF f 4 c none 0).cells m) ∧ Sole g w w') := by
  have HR := Lib.hid hr
  have hg := hr.lt
  clear hr
  have HV : Hid (c.v = .agg [Value.int .i64 c.n, Value.float .f64 c.f, Value.string c.s].toArray) := Lib.hid rfl
  generalize c.v = cv at *
  go_enter Tryd.func67, Tryd.ntmps67
  go_wp2_with (first
    | (refine wl_box rfl 76 (.tmp 2) rfl [Value.int .i64 c.n, Value.float .f64 c.f, Value.string c.s] HV.out ?_
       intro w1 HA1 HB1 HZ1
       have c1 : w1.cell? ⟨w.heap.size, 0, none⟩ = some (.int .i64 c.n) := HA1.out.cell 0
       have HR1 := Lib.hid (HR.out.below HB1.out hg)
       have o1 : w1.cell? ⟨g, 5, none⟩ = some (.int .i64 f.code) := HR1.out.cell 5
       have fz : w1.frozen? ⟨g, 5, none⟩ = false := HR1.out.frozen 5))
  go_end0
  exact ⟨rfl, Lib.hid ⟨HR1.out.set 5 _, (Sole.of_below HB1.out).setCell 5 _⟩⟩

set_option maxRecDepth 100000 in
theorem setField_5 (f : Fr) (m : Nat) (c : F.FC) (g : Nat) (w : World) (hr : Row w g 25 (f.cells m)) :
    Calls Tryd.prog 67 #[.pointer (some ⟨g, 0, none⟩), .int .i64 5, c.v] w fun e w' => e = .returned (.tuple #[]) ∧ Hid (Row w' g 25 ((setF f 5 c none 0).cells m) ∧ Sole g w w') := by
  have HR := Lib.hid hr
  have hg := hr.lt
  clear hr
  have HV : Hid (c.v = .agg [Value.int .i64 c.n, Value.float .f64 c.f, Value.string c.s].toArray) := Lib.hid rfl
  generalize c.v = cv at *
  go_enter Tryd.func67, Tryd.ntmps67
  go_wp2_with (first
    | (refine wl_box rfl 76 (.tmp 2) rfl [Value.int .i64 c.n, Value.float .f64 c.f, Value.string c.s] HV.out ?_
       intro w1 HA1 HB1 HZ1
       have c1 : w1.cell? ⟨w.heap.size, 2, none⟩ = some (.string c.s) := HA1.out.cell 2
       have HR1 := Lib.hid (HR.out.below HB1.out hg)
       have o1 : w1.cell? ⟨g, 6, none⟩ = some (.string f.who) := HR1.out.cell 6
       have fz : w1.frozen? ⟨g, 6, none⟩ = false := HR1.out.frozen 6))
  go_end0
  exact ⟨rfl, Lib.hid ⟨HR1.out.set 6 _, (Sole.of_below HB1.out).setCell 6 _⟩⟩

set_option maxRecDepth 100000 in
theorem setField_6 (f : Fr) (m : Nat) (c : F.FC) (g : Nat) (w : World) (hr : Row w g 25 (f.cells m)) :
    Calls Tryd.prog 67 #[.pointer (some ⟨g, 0, none⟩), .int .i64 6, c.v] w fun e w' => e = .returned (.tuple #[]) ∧ Hid (Row w' g 25 ((setF f 6 c none 0).cells m) ∧ Sole g w w') := by
  have HR := Lib.hid hr
  have hg := hr.lt
  clear hr
  have HV : Hid (c.v = .agg [Value.int .i64 c.n, Value.float .f64 c.f, Value.string c.s].toArray) := Lib.hid rfl
  generalize c.v = cv at *
  go_enter Tryd.func67, Tryd.ntmps67
  go_wp2_with (first
    | (refine wl_box rfl 76 (.tmp 2) rfl [Value.int .i64 c.n, Value.float .f64 c.f, Value.string c.s] HV.out ?_
       intro w1 HA1 HB1 HZ1
       have c1 : w1.cell? ⟨w.heap.size, 2, none⟩ = some (.string c.s) := HA1.out.cell 2
       have HR1 := Lib.hid (HR.out.below HB1.out hg)
       have o1 : w1.cell? ⟨g, 7, none⟩ = some (.string f.name) := HR1.out.cell 7
       have fz : w1.frozen? ⟨g, 7, none⟩ = false := HR1.out.frozen 7))
  go_end0
  exact ⟨rfl, Lib.hid ⟨HR1.out.set 7 _, (Sole.of_below HB1.out).setCell 7 _⟩⟩

set_option maxRecDepth 100000 in
theorem setField_7 (f : Fr) (m : Nat) (c : F.FC) (g : Nat) (w : World) (hr : Row w g 25 (f.cells m)) :
    Calls Tryd.prog 67 #[.pointer (some ⟨g, 0, none⟩), .int .i64 7, c.v] w fun e w' => e = .returned (.tuple #[]) ∧ Hid (Row w' g 25 ((setF f 7 c none 0).cells m) ∧ Sole g w w') := by
  have HR := Lib.hid hr
  have hg := hr.lt
  clear hr
  have HV : Hid (c.v = .agg [Value.int .i64 c.n, Value.float .f64 c.f, Value.string c.s].toArray) := Lib.hid rfl
  generalize c.v = cv at *
  go_enter Tryd.func67, Tryd.ntmps67
  go_wp2_with (first
    | (refine wl_box rfl 76 (.tmp 2) rfl [Value.int .i64 c.n, Value.float .f64 c.f, Value.string c.s] HV.out ?_
       intro w1 HA1 HB1 HZ1
       have c1 : w1.cell? ⟨w.heap.size, 1, none⟩ = some (.float .f64 c.f) := HA1.out.cell 1
       have HR1 := Lib.hid (HR.out.below HB1.out hg)
       have o1 : w1.cell? ⟨g, 8, none⟩ = some (.float .f64 f.weight) := HR1.out.cell 8
       have fz : w1.frozen? ⟨g, 8, none⟩ = false := HR1.out.frozen 8))
  go_end0
  exact ⟨rfl, Lib.hid ⟨HR1.out.set 8 _, (Sole.of_below HB1.out).setCell 8 _⟩⟩

/-- A text's bytes appended to nothing. -/
theorem step_append_none (w : World) {ops : Array Oper} {o : Oper} {a : Act} {K : Act → World → Prop} {Q : Exit → Act → World → Prop} {E : Prop} (hgd : o.guard = none) (t x : Operand)
    (ho : o.op = .call { callee := .builtin .append, args := #[t, x], argTypes := #[23, 9] }) (s : ByteArray) (hs : a.eval t = .slice none 0 0) (hx : a.eval x = .string s) (hb : s.size ≤ 140737488355328)
    (h : ∀ A C w', Hid (s.size ≤ C ∧ C ≤ 9223372036854775807 ∧ Rd w' w'.heap.size A (s.data.toList.map bv) ∧ (s.data.toList ≠ [] → ∃ g, A = some ⟨g, 0, none⟩ ∧ w.heap.size ≤ g)) → Hid (Below w.heap.size w w') → K (a.put o.dst (.slice A s.size C)) w') :
    if Region.wanted o (yielded ops a.tmps) = true then Oper.wp Tryd.prog o a w K Q else E := by
  have hw : Region.wanted o (yielded ops a.tmps) = true := by simp [Region.wanted, hgd]
  rw [if_pos hw]
  obtain ⟨i0, hi0, hz0, hz1, hz2⟩ := info_parts' u8_info
  obtain ⟨v', w', hr, ho2, hg, _⟩ := Lib.run_append_own_string (P := Tryd.prog) w w.heap.size 23 9 o.type 5 i0 Tryd.underlying23 Tryd.underlying9 hi0 hz0 hz1 hz2 (.slice none 0 0) 0 [] ⟨rfl, .inl ⟨rfl, rfl⟩⟩ s (by simp only [maxLen]; omega) (by omega) (Nat.le_refl _)
  unfold Oper.wp execOp
  simp only [ho, resolve, invoke, builtin, Sem.run_bind, Sem.run_pure, Result.andThen_ok, List.map_toArray, List.map_cons, List.map_nil, hs, hx, hr]
  rw [Nat.zero_add, List.nil_append] at ho2
  obtain ⟨A, C, rfl, _, hc, hcm, hrd, hat⟩ := own_slice (bs := s.data.toList) ho2
  exact h A C w' (Lib.hid ⟨hc, hcm, hrd, hat⟩) (Lib.hid ((Below.refl _ _).grown hg (Nat.le_refl _) (fun j hj => by cases hj)))

set_option maxRecDepth 100000 in
set_option maxHeartbeats 1000000 in
theorem setField_8 (f : Fr) (c : F.FC) (g : Nat) (w : World) (hr : Row w g 25 (f.cells 0)) (h0 : f.ba = none) (h1 : f.bc = 0) (h2 : f.bs = []) (hs : c.s.size ≤ 140737488355328) :
    Calls Tryd.prog 67 #[.pointer (some ⟨g, 0, none⟩), .int .i64 8, c.v] w fun e w' => e = .returned (.tuple #[]) ∧ ∃ A C, Hid (Row w' g 25 ((setF f 8 c A C).cells c.s.size) ∧ Sole g w w' ∧ c.s.size ≤ C ∧ C ≤ 9223372036854775807 ∧ Rd w' w'.heap.size A (c.s.data.toList.map bv) ∧ (c.s.data.toList ≠ [] → ∃ q, A = some ⟨q, 0, none⟩ ∧ w.heap.size ≤ q)) := by
  have HR := Lib.hid hr
  have hg := hr.lt
  have HV : Hid (c.v = .agg [Value.int .i64 c.n, Value.float .f64 c.f, Value.string c.s].toArray) := Lib.hid rfl
  obtain ⟨s, HS⟩ : ∃ s, H.Shut (c.s = s) := ⟨_, ⟨rfl⟩⟩
  have HB : Hid (f.ba = none ∧ f.bc = 0 ∧ f.bs = []) := Lib.hid ⟨h0, h1, h2⟩
  rw [HS.out] at hs HV
  generalize c.v = cv at *
  clear hr h0 h1 h2
  go_enter Tryd.func67, Tryd.ntmps67
  go_wp2_with (first
    | (refine wl_box rfl 76 (.tmp 2) rfl [Value.int .i64 c.n, Value.float .f64 c.f, Value.string s] HV.out ?_
       intro w1 HA1 HB1 HZ1
       have c1 : w1.cell? ⟨w.heap.size, 2, none⟩ = some (.string s) := HA1.out.cell 2
       have HR1 := Lib.hid (HR.out.below HB1.out hg)
       have hz1 : w.heap.size < w1.heap.size := by rw [HZ1.out]; omega
       have o1 : w1.cell? ⟨g, 9, none⟩ = some (.slice none 0 0) := (HR1.out.cell 9).trans (by show some (Value.slice f.ba 0 f.bc) = _; rw [HB.out.1, HB.out.2.1])
       have fz : w1.frozen? ⟨g, 9, none⟩ = false := HR1.out.frozen 9))
  have HR1d : Hid (Row w1.drew g 25 (f.cells 0)) := Lib.hid (row_drew HR1.out)
  have hgd : g < w1.drew.heap.size := Nat.lt_trans hg hz1
  go_region_law (refine step_append_none _ rfl (.tmp 69) (.tmp 71) rfl s rfl rfl hs ?_; intro A2 C2 w2 HO2 HB2; have HR2 := Lib.hid (HR1d.out.below HB2.out hgd); have fz2 : w2.frozen? ⟨g, 9, none⟩ = false := HR2.out.frozen 9; have cy : w2.cell? ⟨g, 9, none⟩ = some (.slice f.ba 0 f.bc) := HR2.out.cell 9)
  all_goals
    have hb2 : Below w1.heap.size w1 w2 := ⟨HB2.out.os, HB2.out.tape, HB2.out.output, HB2.out.size, HB2.out.block⟩
    have HS2 : Hid (Sole g w (w2.setCell ⟨g, 9, none⟩ (.slice A2 s.size C2))) := Lib.hid ((Sole.of_below (HB1.out.trans (hb2.mono (Nat.le_of_lt hz1)))).setCell 9 _)
    have HR3 : Hid (Row (w2.setCell ⟨g, 9, none⟩ (.slice A2 s.size C2)) g 25 ((f.cells 0).set 9 (.slice A2 s.size C2))) := Lib.hid (HR2.out.set 9 _)
    have HRD : Hid (Rd (w2.setCell ⟨g, 9, none⟩ (.slice A2 s.size C2)) (w2.setCell ⟨g, 9, none⟩ (.slice A2 s.size C2)).heap.size A2 (s.data.toList.map bv)) := Lib.hid (by
      have e : (w2.setCell ⟨g, 9, none⟩ (.slice A2 s.size C2)).heap.size = w2.heap.size := by simp [World.setCell]
      rw [e]
      rcases HO2.out.2.2.1 with h0 | ⟨ad, h1, h2, h3⟩
      · exact .inl h0
      · refine .inr ⟨ad, h1, h2, fun j x hj => ?_⟩
        obtain ⟨q, hq, hqg⟩ := HO2.out.2.2.2 (fun e0 => by rw [e0] at hj; simp at hj)
        rw [hq] at h1
        injection h1 with h1
        subst h1
        have hne : g ≠ q := Nat.ne_of_lt (Nat.lt_of_lt_of_le hgd hqg)
        exact (((Sole.refl g w2).setCell 9 _).cell (p := (⟨q, 0, none⟩ : Addr).add j) (by rw [add_block]; exact h2) (by rw [add_block]; exact fun e => hne e.symm)).trans (h3 j x hj))
    generalize w2.setCell ⟨g, 9, none⟩ (.slice A2 s.size C2) = w3 at *
    clear HB2 fz2 cy hb2 HR2
    go_wp2_with fail
    go_end0
    refine ⟨rfl, A2, C2, Lib.hid ⟨?_, HS2.out, by rw [HS.out]; exact HO2.out.1, HO2.out.2.1, by rw [HS.out]; exact HRD.out, fun hne => by
      rw [HS.out] at hne
      obtain ⟨q, h1, h2⟩ := HO2.out.2.2.2 hne
      exact ⟨q, h1, Nat.le_trans (Nat.le_of_lt hz1) h2⟩⟩⟩
    have h3 := HR3.out
    rw [HS.out]
    exact h3
end Go.Proofs.YtmhfhdbaeijcfaaDoor
namespace Go.Proofs.YtmhfhdbaeijcfaaDoor
open Go.RowKit
open Go.Proofs.YtmhfhdbaeijcfaaDoor.H
attribute [local go_sem] F.run_store_f64

/-- A frame's bytes are younger than a world. -/
def Fr.new (f : Fr) (w : World) : Prop := f.bs ≠ [] → ∃ q, f.ba = some ⟨q, 0, none⟩ ∧ w.heap.size ≤ q
theorem Fr.new.old {f : Fr} {w w' : World} (h : f.new w) (hs : w'.heap.size ≤ w.heap.size) : f.new w' := fun hb => by
  obtain ⟨q, h1, h2⟩ := h hb
  exact ⟨q, h1, Nat.le_trans hs h2⟩
/-- A frame without bytes so far. -/
def Fr.bare (f : Fr) : Prop := f.ba = none ∧ f.bc = 0 ∧ f.bs = []
theorem bare_ok {f : Fr} {w w' : World} {B B' : Nat} (h : f.bare) (hf : f.ok w B) : f.ok w' B' := { hf with rd := .inl (by rw [h.2.2]; rfl) }
theorem Fr.bare.new {f : Fr} (h : f.bare) (w : World) : f.new w := fun hb => absurd h.2.2 hb
theorem setF_bare {f : Fr} (x : Nat) (c : F.FC) (hx : x < 8) (h : f.bare) : (setF f x c none 0).bare := by
  have : x = 0 ∨ x = 1 ∨ x = 2 ∨ x = 3 ∨ x = 4 ∨ x = 5 ∨ x = 6 ∨ x = 7 := by omega
  rcases this with rfl | rfl | rfl | rfl | rfl | rfl | rfl | rfl <;> exact h
theorem setF_ok {f : Fr} {w : World} {B : Nat} (x : Nat) (c : F.FC) (hx : x < 8) (hc : c.ok) (hf : f.ok w B) : (setF f x c none 0).ok w B := by
  have : x = 0 ∨ x = 1 ∨ x = 2 ∨ x = 3 ∨ x = 4 ∨ x = 5 ∨ x = 6 ∨ x = 7 := by omega
  have hn : i64ok c.n := ⟨hc.1, hc.2.1⟩
  rcases this with rfl | rfl | rfl | rfl | rfl | rfl | rfl | rfl
  · exact { hf with seq := hn }
  · exact { hf with got := hn }
  · exact { hf with stream := hn }
  · exact { hf with amount := hn }
  · exact { hf with code := hn }
  · exact { hf with who := hc.2.2.2 }
  · exact { hf with name := hc.2.2.2 }
  · exact { hf with weight := hc.2.2.1 }
theorem calls_set {a b : Int} {p cv : Value} {w : World} {Q Q' : Ending → World → Prop} (h : Calls Tryd.prog 67 #[p, .int .i64 a, cv] w Q) (e : a = b) (hq : ∀ e w', Q e w' → Q' e w') : Calls Tryd.prog 67 #[p, .int .i64 b, cv] w Q' := by
  subst e
  exact h.mono hq
theorem setField_any (f : Fr) (x : Nat) (c : F.FC) (cv : Value) (g : Nat) (w : World) (HV : Hid (cv = c.v)) (hx : x < 9) (hr : Row w g 25 (f.cells f.bs.length)) (hf : f.ok w w.heap.size) (hc : c.ok) (h0 : f.bare) (h8 : x = 8 → c.s.size ≤ 140737488355328) :
    Calls Tryd.prog 67 #[.pointer (some ⟨g, 0, none⟩), .int .i64 (x : Int), cv] w fun e w' => e = .returned (.tuple #[]) ∧ ∃ A C, Hid (Row w' g 25 ((setF f x c A C).cells (setF f x c A C).bs.length) ∧ Sole g w w' ∧ (setF f x c A C).ok w' w'.heap.size ∧ (x < 8 → (setF f x c A C).bare) ∧ (setF f x c A C).new w) := by
  rw [HV.out]
  have hl : f.bs.length = 0 := by rw [h0.2.2]; rfl
  have e8 : ∀ x, x < 8 → ∀ w', (Row w' g 25 ((setF f x c none 0).cells 0) ∧ Sole g w w') → ∃ A C, Hid (Row w' g 25 ((setF f x c A C).cells (setF f x c A C).bs.length) ∧ Sole g w w' ∧ (setF f x c A C).ok w' w'.heap.size ∧ (x < 8 → (setF f x c A C).bare) ∧ (setF f x c A C).new w) := by
    intro x hx8 w' h
    have hb := setF_bare x c hx8 h0
    have hbl : (setF f x c none 0).bs.length = 0 := by rw [hb.2.2]; rfl
    exact ⟨none, 0, Lib.hid ⟨by rw [hbl]; exact h.1, h.2, bare_ok hb (setF_ok x c hx8 hc hf), fun _ => hb, hb.new w⟩⟩
  rw [hl] at hr
  rcases ext_nine x hx with rfl | rfl | rfl | rfl | rfl | rfl | rfl | rfl | rfl
  · exact calls_set (setField_0 f 0 c g w hr) rfl fun e w' h => ⟨h.1, e8 0 (by decide) w' h.2.out⟩
  · exact calls_set (setField_1 f 0 c g w hr) rfl fun e w' h => ⟨h.1, e8 1 (by decide) w' h.2.out⟩
  · exact calls_set (setField_2 f 0 c g w hr) rfl fun e w' h => ⟨h.1, e8 2 (by decide) w' h.2.out⟩
  · exact calls_set (setField_3 f 0 c g w hr) rfl fun e w' h => ⟨h.1, e8 3 (by decide) w' h.2.out⟩
  · exact calls_set (setField_4 f 0 c g w hr) rfl fun e w' h => ⟨h.1, e8 4 (by decide) w' h.2.out⟩
  · exact calls_set (setField_5 f 0 c g w hr) rfl fun e w' h => ⟨h.1, e8 5 (by decide) w' h.2.out⟩
  · exact calls_set (setField_6 f 0 c g w hr) rfl fun e w' h => ⟨h.1, e8 6 (by decide) w' h.2.out⟩
  · exact calls_set (setField_7 f 0 c g w hr) rfl fun e w' h => ⟨h.1, e8 7 (by decide) w' h.2.out⟩
  · refine calls_set (setField_8 f c g w hr h0.1 h0.2.1 h0.2.2 (h8 rfl)) rfl fun e w' ⟨he, A, C, h⟩ => ⟨he, A, C, Lib.hid ?_⟩
    obtain ⟨q1, q2, q3, q4, q5, q6⟩ := h.out
    have hbs : (setF f 8 c A C).bs = c.s.data.toList := by show f.bs ++ c.s.data.toList = _; rw [h0.2.2]; rfl
    have hbl : (setF f 8 c A C).bs.length = c.s.size := by rw [hbs]; simp
    refine ⟨by rw [hbl]; exact q1, q2, ?_, fun h => absurd h (by decide), fun hb => q6 (by rw [← hbs]; exact hb)⟩
    exact { kind := hf.kind, seq := hf.seq, got := hf.got, stream := hf.stream, amount := hf.amount, code := hf.code, who := hf.who, name := hf.name, weight := hf.weight, cap := by rw [hbl]; exact q3, max := q4, rd := by rw [hbs]; exact q5 }

theorem fill_append : ∀ (L1 : List Nat) (c1 : List F.FC) (L2 : List Nat) (c2 : List F.FC) (f : Fr), L1.length = c1.length → fill f (L1 ++ L2) (c1 ++ c2) = fill (fill f L1 c1) L2 c2
  | [], [], L2, c2, f, _ => by simp [fill]
  | x :: L1, c :: c1, L2, c2, f, h => by
    show fill (setF f x c none 0) (L1 ++ L2) (c1 ++ c2) = fill (fill (setF f x c none 0) L1 c1) L2 c2
    exact fill_append L1 c1 L2 c2 _ (by simpa using h)
  | [], _ :: _, _, _, _, h => by simp at h
  | _ :: _, [], _, _, _, h => by simp at h
theorem fill_snoc (L : List Nat) (cs : List F.FC) (f : Fr) (j : Nat) (hj : j < L.length) (hc : j < cs.length) : fill f (L.take (j + 1)) (cs.take (j + 1)) = setF (fill f (L.take j) (cs.take j)) L[j] cs[j] none 0 := by
  rw [List.take_succ_eq_append_getElem hj, List.take_succ_eq_append_getElem hc, fill_append _ _ _ _ _ (by rw [List.length_take, List.length_take]; omega)]
  rfl
theorem used_last8 (k : Int) (j : Nat) (h : j + 1 < (used k).length) : (used k)[j]'(by omega) ≠ 8 := by
  have h8 : 8 ∉ (used k).dropLast := by
    rcases kinds_or k with (rfl | rfl | rfl | rfl | rfl | rfl | rfl | rfl | rfl | rfl | rfl | rfl | rfl | rfl | rfl | rfl | rfl) | h1
    rotate_right
    · rw [used_none k h1]; simp
    all_goals decide
  intro e
  apply h8
  have hj : j < (used k).dropLast.length := by simp; omega
  have hm := List.getElem_mem hj
  rw [List.getElem_dropLast, e] at hm
  exact hm
theorem kindOf_eq {bs : List UInt8} {x : UInt8} (h : bs[2]? = some x) : kindOf bs = (x.toNat : Int) := by
  unfold kindOf
  rw [List.getD_eq_getElem?_getD, h]
  rfl
theorem openB_tail {bs : List UInt8} {f : Fr} (h : openB bs = some f) : ∃ y z cs, F.decS (layS (kindOf bs)) bs = .ok (y :: z :: cs) ∧ y.n = (bs.length : Int) - 2 ∧ f = fill (zf (kindOf bs)) (used (kindOf bs)) cs := by
  unfold openB at h
  split at h
  · rename_i y z cs hd
    split at h
    · rename_i hy
      injection h with h
      exact ⟨y, z, cs, hd, hy, h.symm⟩
    · cases h
  · cases h
theorem openB_none {bs : List UInt8} (h : openB bs = none) {y : F.FC} {ys : List F.FC} (hd : F.decS (layS (kindOf bs)) bs = .ok (y :: ys)) (hl : ys ≠ []) : y.n ≠ (bs.length : Int) - 2 := by
  intro hy
  cases ys with
  | nil => exact hl rfl
  | cons z cs =>
    unfold openB at h
    rw [hd] at h
    simp only at h
    rw [if_pos hy] at h
    cases h
end Go.Proofs.YtmhfhdbaeijcfaaDoor
namespace Go.Proofs.YtmhfhdbaeijcfaaDoor
open Go.RowKit
open Go.Proofs.YtmhfhdbaeijcfaaDoor.H
attribute [local go_sem] F.run_store_f64

set_option maxRecDepth 100000 in
set_option maxHeartbeats 2000000 in
theorem opened_none (n : Nat) (b : Addr) (bs : List UInt8) (E : Nat → Value) (te : TypeId) (pe : Value) (w : World) (hE : Env w E te pe) (hE5 : F.Errs w E) (hn : bs.length = n) (h3 : 3 ≤ n) (hs : n ≤ 900000) (hr : Rd w w.heap.size (some b) (bs.map bv)) (hno : openB bs = none) :
    Calls Tryd.prog 50 #[.slice (some b) n n] w fun e w' => ∃ t p, e = .returned (.tuple #[.agg zeroC.toArray, .iface t p]) ∧ Hid (Below w.heap.size w w') := by
  have HE := Lib.hid hE
  have HE5 := Lib.hid hE5
  have h20 := hE.size
  have HN := Lib.hid hn
  have HR := Lib.hid hr
  have HNO := Lib.hid hno
  obtain ⟨x, HX⟩ : ∃ x, H.Shut (bs[2]? = some x) := ⟨bs[2]'(by omega), ⟨List.getElem?_eq_getElem (by omega)⟩⟩
  clear hE hE5 hn hr hno
  have HLZ : Hid ((Tryd.prog.info? 25).map (·.size) = some zeroC.length) := Lib.hid size25
  have hwx : wrap64 (x.toNat : Int) = (x.toNat : Int) := by have := x.toNat_lt; unfold wrap64; omega
  go_enter Tryd.func50, Tryd.ntmps50
  go_wp2_with (first
    | (refine wl_alloc (o := ⟨some 2, _, _, _, _, _⟩) rfl 25 rfl _ _ info25' ?_
       intro w1 HA1 HB1 HZ1
       have hz1 : w.heap.size < w1.heap.size := by rw [HZ1.out]; omega
       have hcx : w1.cell? ⟨b.block, b.off + 2, none⟩ = some (.int .u8 (x.toNat : Int)) := by
         obtain ⟨ad, he, _, hc⟩ := (HR.out.below HB1.out).cell (k := 2) (u := bv x) (by rw [List.getElem?_map, HX.out]; rfl)
         injection he with he
         subst he
         simpa [Addr.add, bv] using hc)
    | (refine wl_alloc (o := ⟨some 4, _, _, _, _, _⟩) rfl 25 rfl _ _ info25' ?_
       intro w2 HA2 HB2 HZ2
       have hz2 : w1.heap.size < w2.heap.size := by rw [HZ2.out]; omega)
    | (refine wl_store rfl 25 (.tmp 4) (.tmp 13) rfl w1.heap.size _ (kindC (x.toNat : Int)) rfl rfl rfl 25 _ HA2.out HLZ.out rfl (kindC_one _) ?_
       intro w3 HR3 HS3 HZ3
       have c0 : w3.cell? ⟨w1.heap.size, 0, none⟩ = some (.int .i64 (x.toNat : Int)) := HR3.out.cell 0))
  have hz3 : w2.heap.size ≤ w3.heap.size := by rw [HZ3.out]; exact Nat.le_refl _
  have hb13 : Below w1.heap.size w1 w3 := HB2.out.trans (HS3.out.below (Nat.le_refl _) (by omega))
  have HB3 := Lib.hid (HB1.out.trans (hb13.mono (Nat.le_of_lt hz1)))
  have HA3 := Lib.hid (HA1.out.below hb13 hz1)
  clear HA1 HB1 HZ1 HA2 HB2 HZ2 HS3 HZ3 hcx hb13
  obtain ⟨k, HK⟩ : ∃ k, H.Shut ((x.toNat : Int) = k) := ⟨_, ⟨rfl⟩⟩
  rw [HK.out]
  with_reducible refine (layout_any k w3).mono ?_
  rintro e w4 ⟨rfl, HV4⟩
  obtain ⟨t, HT⟩ : ∃ t, H.Shut (t = ByteArray.mk (layL k).toArray) := ⟨_, ⟨rfl⟩⟩
  rw [← HT.out]
  have hts : t.size ≤ 9 := by
    rw [HT.out]
    show (layL k).toArray.size ≤ 9
    unfold layL
    simp
    exact used_len k
  have hnl : ¬ 9223372036854775807 < 2 + t.size := by omega
  have HB4 := Lib.hid (HB3.out.trans (HV4.out.mono HB3.out.size))
  have hz4 : w3.heap.size ≤ w4.heap.size := HV4.out.size
  have HA4 := Lib.hid (HA3.out.below HV4.out (by omega))
  clear HV4 HA3 HB3 c0
  go_wp2_with fail
  obtain ⟨s, HS⟩ : ∃ s, H.Shut (ByteArray.mk #[104, 98] ++ t = s) := ⟨_, ⟨rfl⟩⟩
  have HSD : H.Shut (s.data.toList = 104 :: 98 :: layL k) := ⟨by rw [← HS.out, HT.out, bytes_cat [104, 98] (layL k)]; rfl⟩
  have HSS : Hid (s.size ≤ 11) := Lib.hid (by
    have h1 : s.size = s.data.toList.length := by simp
    rw [h1, HSD.out]
    simp [layL]
    exact used_len k)
  rw [HS.out]
  have HE4 := Lib.hid (HE.out.below h20 HB4.out)
  have HE54 := Lib.hid (HE5.out.below h20 HB4.out)
  have HMX : Hid (s.size ≤ maxLen) := Lib.hid (by have e : maxLen = 9223372036854775807 := rfl; rw [e]; have := HSS.out; omega)
  have HNX : Hid (n ≤ maxLen) := Lib.hid (by have e : maxLen = 9223372036854775807 := rfl; rw [e]; omega)
  have HKN : Hid (F.kn s.data.toList = true) := Lib.hid (by rw [HSD.out]; exact kn_layS k)
  have HR4 : Hid (F.Rd w4 w4.heap.size (some b) (bs.map F.bv)) := Lib.hid ((HR.out.below HB4.out).more HB4.out.size)
  with_reducible refine (F.decode_known E s n n (some b) bs w4 HE54.out HE4.out.size HMX.out (by have := HSS.out; omega) HN.out HNX.out (Nat.le_refl _) HR4.out HKN.out).mono ?_
  intro e w5 HD
  have HLZ2 : Hid (zeroC.length = zeroC.length) := Lib.hid rfl
  cases hdec : F.decS s.data.toList bs with
  | error q =>
    rw [hdec] at HD
    obtain ⟨rfl, hb5⟩ := HD
    have hq5 : q < 5 := F.decS_bound hdec
    obtain ⟨tq, pq, hEq⟩ := HE5.out.some_ q hq5
    rw [hEq]
    have HB5 := Lib.hid (HB4.out.trans (hb5.mono HB4.out.size))
    have HA5 := Lib.hid (HA4.out.below hb5 (by omega))
    go_wp2_with (first
      | (refine wl_store rfl 25 (.tmp 2) (.tmp 25) rfl w.heap.size _ zeroC rfl rfl rfl 25 _ HA5.out HLZ.out rfl zeroC_one ?_
         intro w6 HR6 HS6 HZ6))
    refine bodyPost_ret (v := .tuple #[.agg zeroC.toArray, .iface tq pq]) (results_cell_two Tryd.results50 _ w6 w.heap.size 25 zeroC _ _ rfl rfl HR6.out under25.choose_spec rfl HLZ.out) rfl ?_
    exact ⟨tq, pq, rfl, Lib.hid (HB5.out.trans (HS6.out.below (Nat.le_refl _) HB5.out.size))⟩
  | ok cs =>
    rw [hdec] at HD
    obtain ⟨v, rfl, hown, hb5⟩ := HD
    rw [HSD.out] at hdec
    obtain ⟨y, ys, rfl, hyn⟩ := first_cell _ bs cs hdec
    have HNE : Hid ((told bs : Int) ≠ (n : Int) - 2) := Lib.hid (by
      have hk : kindOf bs = k := (kindOf_eq HX.out).trans HK.out
      have hd2 : F.decS (layS (kindOf bs)) bs = .ok (y :: ys) := by rw [hk]; exact hdec
      have hys : ys ≠ [] := by
        have hmx : bs.length ≤ maxLen := by rw [HN.out]; exact HNX.out
        have hl := (F.enc_dec (kn_layS _) hmx hd2).1
        have h2 : (layS (kindOf bs)).length = 2 + (used (kindOf bs)).length := layS_length _
        rw [h2] at hl
        intro e
        rw [e] at hl
        simp at hl
        omega
      have h3 := openB_none HNO.out hd2 hys
      rw [hyn, HN.out] at h3
      exact h3)
    obtain ⟨g, c, rfl, _, hc1, hc2, hg1, hg2, hcs⟩ := own_cells hown (by simp)
    have HB5 := Lib.hid (HB4.out.trans (hb5.mono HB4.out.size))
    have HA5 := Lib.hid (HA4.out.below hb5 (by omega))
    have cg : w5.cell? ⟨g, 0, none⟩ = some (.int .i64 (told bs : Int)) := by
      obtain ⟨b', o, hb1, _, hb2, _⟩ := F.Cs.at_ (k := 0) hcs (by simp)
      injection hb1 with hb1
      injection hb1 with hb1 hb3 _
      subst hb1 hb3
      rw [← hyn]
      simpa using hb2
    obtain ⟨m, hm⟩ : ∃ m, (y :: ys).length = m := ⟨_, rfl⟩
    have hm0 : 0 < m := by rw [← hm]; simp
    rw [hm]
    rw [hm] at hc1
    have ce : w5.cell? ⟨0, 0, none⟩ = some (.iface te pe) := (HE.out.below h20 HB5.out).ef
    obtain ⟨T, HTT⟩ : ∃ T, H.Shut ((told bs : Int) = T) := ⟨_, ⟨rfl⟩⟩
    rw [HTT.out] at cg
    have hTne : (T != (n : Int) - 2) = true := by have := HNE.out; rw [HTT.out] at this; simp [this]
    have hTne2 : ¬ T = (n : Int) - 2 := by have := HNE.out; rwa [HTT.out] at this
    clear hdec hown hyn hcs hm
    have z0 : w5.cell? ⟨w.heap.size, 0, none⟩ = some (.int .i64 0) := HA5.out.cell 0
    have z1 : w5.cell? ⟨w.heap.size, 1, none⟩ = some (.int .i64 0) := HA5.out.cell 1
    have z2 : w5.cell? ⟨w.heap.size, 2, none⟩ = some (.int .i64 0) := HA5.out.cell 2
    have z3 : w5.cell? ⟨w.heap.size, 3, none⟩ = some (.int .i64 0) := HA5.out.cell 3
    have z4 : w5.cell? ⟨w.heap.size, 4, none⟩ = some (.int .i64 0) := HA5.out.cell 4
    have z5 : w5.cell? ⟨w.heap.size, 5, none⟩ = some (.int .i64 0) := HA5.out.cell 5
    have z6 : w5.cell? ⟨w.heap.size, 6, none⟩ = some (.string ⟨#[]⟩) := HA5.out.cell 6
    have z7 : w5.cell? ⟨w.heap.size, 7, none⟩ = some (.string ⟨#[]⟩) := HA5.out.cell 7
    have z8 : w5.cell? ⟨w.heap.size, 8, none⟩ = some (.float .f64 0) := HA5.out.cell 8
    have z9 : w5.cell? ⟨w.heap.size, 9, none⟩ = some (.slice none 0 0) := HA5.out.cell 9
    have fzz : ∀ i, w5.frozen? ⟨w.heap.size, i, none⟩ = false := HA5.out.frozen
    go_wp2_with fail
    go_region
    all_goals
      change Exit.then _ _ _ _ (rezero w5 w.heap.size).drew
      have HR6 : Hid (Row (rezero w5 w.heap.size).drew w.heap.size 25 zeroC) := Lib.hid (row_drew (rezero_row HA5.out))
      have HB6 : Hid (Below w.heap.size w (rezero w5 w.heap.size).drew) := Lib.hid (rezero_below HB5.out (Nat.le_refl _)).drew
      generalize (rezero w5 w.heap.size).drew = w6 at *
      clear z0 z1 z2 z3 z4 z5 z6 z7 z8 z9 fzz
      go_wp2_with fail
      refine bodyPost_ret (v := .tuple #[.agg zeroC.toArray, .iface te pe]) (results_cell_two Tryd.results50 _ w6 w.heap.size 25 zeroC _ _ rfl rfl HR6.out under25.choose_spec rfl HLZ.out) rfl ?_
      exact ⟨te, pe, rfl, HB6⟩

end Go.Proofs.YtmhfhdbaeijcfaaDoor
namespace Go.Proofs.YtmhfhdbaeijcfaaDoor
open Go.RowKit
open Go.Proofs.YtmhfhdbaeijcfaaDoor.H
attribute [local go_sem] F.run_store_f64
/-- A frame's bytes don't lie where a frame's cells lie. -/
theorem rd_sole_row {f : Fr} {w w' : World} {g q m : Nat} {cs : List Value} (hf : f.ok w w.heap.size) (_ : Row w q 25 (f.cells m)) (hz : Row w g 25 cs) (hs : Sole g w w') (hcs : cs = zeroC := by rfl) : Rd w' w.heap.size f.ba (f.bs.map bv) := by
  subst hcs
  rcases hf.rd with h | ⟨ad, h1, h2, h3⟩
  · exact .inl h
  · refine .inr ⟨ad, h1, h2, fun j u hj => (hs.cell (by rw [add_block]; exact h2) ?_).trans (h3 j u hj)⟩
    rw [add_block]
    intro e
    have hc := h3 j u hj
    have hu : ∃ b, u = bv b := by
      rw [List.getElem?_map] at hj
      cases hb : f.bs[j]? with
      | none => rw [hb] at hj; cases hj
      | some b => rw [hb] at hj; exact ⟨b, (Option.some.inj hj).symm⟩
    obtain ⟨b, rfl⟩ := hu
    have hrow := hz
    unfold Row at hrow
    unfold World.cell? at hc
    rw [add_block, e, hrow] at hc
    simp only at hc
    split at hc
    · cases hc
    · have hm : bv b ∈ zeroC := by
        have := Array.mem_of_getElem? hc
        simpa using this
      unfold zeroC bv at hm
      simp at hm
theorem cell_size : ∀ (l : List UInt8) (cs : List F.FC) (bs : List UInt8), bs.length ≤ maxLen → F.decS l bs = .ok cs → ∀ c ∈ cs, c.s.size ≤ bs.length
  | [], cs, bs, _, h, c, hc => by
    unfold F.decS at h
    split at h
    · cases h; simp at hc
    · cases h
  | d :: l, cs, bs, hm, h, c, hc => by
    unfold F.decS at h
    split at h
    · cases h
    · rename_i n hn
      split at h
      · cases h
      · rename_i r hr
        injection h with h
        subst h
        rcases List.mem_cons.1 hc with rfl | hc
        · unfold F.cellS
          repeat' split
          · show (0 : Nat) ≤ _; exact Nat.zero_le _
          · show ((bs.take n).drop _).toArray.size ≤ _; simp; omega
          · show (0 : Nat) ≤ _; exact Nat.zero_le _
        · have h1 := cell_size l r (bs.drop n) (by rw [List.length_drop]; unfold maxLen at *; omega) hr c hc
          rw [List.length_drop] at h1
          omega
theorem zf_ok (k : Int) (w : World) (B : Nat) (hk : 0 ≤ k ∧ k ≤ 255) : (zf k).ok w B :=
  have z : i64ok 0 := ⟨by decide, by decide⟩
  ⟨⟨by show _ ≤ k; omega, by show k ≤ _; omega⟩, z, z, z, z, z, Nat.zero_le _, Nat.zero_le _, by show 0 < 18446744073709551616; decide, Nat.zero_le _, by show 0 ≤ 9223372036854775807; decide, .inl rfl⟩
theorem cells_ok (f : Fr) (m : Nat) : ∀ v ∈ f.cells m, v.oneCell' = true := by
  intro v hv
  unfold Fr.cells at hv
  simp at hv
  rcases hv with rfl | rfl | rfl | rfl | rfl | rfl | rfl | rfl | rfl | rfl <;> rfl
set_option maxRecDepth 100000 in
set_option maxHeartbeats 2000000 in
theorem opened_some (n : Nat) (b : Addr) (bs : List UInt8) (E : Nat → Value) (te : TypeId) (pe : Value) (w : World) (hE : Env w E te pe) (hE5 : F.Errs w E) (hn : bs.length = n) (h3 : 3 ≤ n) (hs : n ≤ 900000) (hr : Rd w w.heap.size (some b) (bs.map bv)) (f0 : Fr) (hso : openB bs = some f0) :
    Calls Tryd.prog 50 #[.slice (some b) n n] w fun e w' => ∃ (f : Fr) (v : Value), e = .returned (.tuple #[v, .nilIface]) ∧ Hid (v = f.v ∧ f.pl = f0 ∧ f.ok w' w'.heap.size ∧ Below w.heap.size w w' ∧ f.new w) := by
  have HE := Lib.hid hE
  have HE5 := Lib.hid hE5
  have h20 := hE.size
  have HN := Lib.hid hn
  have HR := Lib.hid hr
  obtain ⟨y, z, cs, hdc, hyn, hf0⟩ := openB_tail hso
  obtain ⟨x, HX⟩ : ∃ x, H.Shut (bs[2]? = some x) := ⟨bs[2]'(by omega), ⟨List.getElem?_eq_getElem (by omega)⟩⟩
  clear hE hE5 hn hr hso
  have HLZ : Hid ((Tryd.prog.info? 25).map (·.size) = some zeroC.length) := Lib.hid size25
  have hwx : wrap64 (x.toNat : Int) = (x.toNat : Int) := by have := x.toNat_lt; unfold wrap64; omega
  go_enter Tryd.func50, Tryd.ntmps50
  go_wp2_with (first
    | (refine wl_alloc (o := ⟨some 2, _, _, _, _, _⟩) rfl 25 rfl _ _ info25' ?_
       intro w1 HA1 HB1 HZ1
       have hz1 : w.heap.size < w1.heap.size := by rw [HZ1.out]; omega
       have hcx : w1.cell? ⟨b.block, b.off + 2, none⟩ = some (.int .u8 (x.toNat : Int)) := by
         obtain ⟨ad, he, _, hc⟩ := (HR.out.below HB1.out).cell (k := 2) (u := bv x) (by rw [List.getElem?_map, HX.out]; rfl)
         injection he with he
         subst he
         simpa [Addr.add, bv] using hc)
    | (refine wl_alloc (o := ⟨some 4, _, _, _, _, _⟩) rfl 25 rfl _ _ info25' ?_
       intro w2 HA2 HB2 HZ2
       have hz2 : w1.heap.size < w2.heap.size := by rw [HZ2.out]; omega)
    | (refine wl_store rfl 25 (.tmp 4) (.tmp 13) rfl w1.heap.size _ (kindC (x.toNat : Int)) rfl rfl rfl 25 _ HA2.out HLZ.out rfl (kindC_one _) ?_
       intro w3 HR3 HS3 HZ3
       have c0 : w3.cell? ⟨w1.heap.size, 0, none⟩ = some (.int .i64 (x.toNat : Int)) := HR3.out.cell 0))
  have hz3 : w2.heap.size ≤ w3.heap.size := by rw [HZ3.out]; exact Nat.le_refl _
  have hb13 : Below w1.heap.size w1 w3 := HB2.out.trans (HS3.out.below (Nat.le_refl _) (by omega))
  have HB3 := Lib.hid (HB1.out.trans (hb13.mono (Nat.le_of_lt hz1)))
  have HA3 := Lib.hid (HA1.out.below hb13 hz1)
  have HG3 := Lib.hid HR3.out
  clear HA1 HB1 HZ1 HA2 HB2 HZ2 HR3 HS3 HZ3 hcx hb13
  obtain ⟨k, HK⟩ : ∃ k, H.Shut ((x.toNat : Int) = k) := ⟨_, ⟨rfl⟩⟩
  rw [HK.out]
  with_reducible refine (layout_any k w3).mono ?_
  rintro e w4 ⟨rfl, HV4⟩
  obtain ⟨t, HT⟩ : ∃ t, H.Shut (t = ByteArray.mk (layL k).toArray) := ⟨_, ⟨rfl⟩⟩
  rw [← HT.out]
  have hts : t.size ≤ 9 := by
    rw [HT.out]
    show (layL k).toArray.size ≤ 9
    unfold layL
    simp
    exact used_len k
  have hnl : ¬ 9223372036854775807 < 2 + t.size := by omega
  have HB4 := Lib.hid (HB3.out.trans (HV4.out.mono HB3.out.size))
  have hz4 : w3.heap.size ≤ w4.heap.size := HV4.out.size
  have HA4 := Lib.hid (HA3.out.below HV4.out (by omega))
  have HG4 := Lib.hid (HG3.out.below HV4.out (by omega))
  clear HV4 HA3 HG3 HB3 c0
  go_wp2_with fail
  obtain ⟨s, HS⟩ : ∃ s, H.Shut (ByteArray.mk #[104, 98] ++ t = s) := ⟨_, ⟨rfl⟩⟩
  have HSD : H.Shut (s.data.toList = 104 :: 98 :: layL k) := ⟨by rw [← HS.out, HT.out, bytes_cat [104, 98] (layL k)]; rfl⟩
  have HSS : Hid (s.size ≤ 11) := Lib.hid (by
    have h1 : s.size = s.data.toList.length := by simp
    rw [h1, HSD.out]
    simp [layL]
    exact used_len k)
  rw [HS.out]
  have HE4 := Lib.hid (HE.out.below h20 HB4.out)
  have HE54 := Lib.hid (HE5.out.below h20 HB4.out)
  have HMX : Hid (s.size ≤ maxLen) := Lib.hid (by have e : maxLen = 9223372036854775807 := rfl; rw [e]; have := HSS.out; omega)
  have HNX : Hid (n ≤ maxLen) := Lib.hid (by have e : maxLen = 9223372036854775807 := rfl; rw [e]; omega)
  have HKN : Hid (F.kn s.data.toList = true) := Lib.hid (by rw [HSD.out]; exact kn_layS k)
  have HR4 : Hid (F.Rd w4 w4.heap.size (some b) (bs.map F.bv)) := Lib.hid ((HR.out.below HB4.out).more HB4.out.size)
  with_reducible refine (F.decode_known E s n n (some b) bs w4 HE54.out HE4.out.size HMX.out (by have := HSS.out; omega) HN.out HNX.out (Nat.le_refl _) HR4.out HKN.out).mono ?_
  intro e w5 HD
  have hkk : kindOf bs = k := (kindOf_eq HX.out).trans HK.out
  have hk255 : 0 ≤ k ∧ k ≤ 255 := by rw [← HK.out]; have := x.toNat_lt; omega
  rw [hkk] at hdc hf0
  have hdec : F.decS s.data.toList bs = .ok (y :: z :: cs) := by rw [HSD.out]; exact hdc
  rw [hdec] at HD
  obtain ⟨v, rfl, hown, hb5⟩ := HD
  obtain ⟨q1, q2, q3, q4⟩ := F.enc_dec (kn_layS k) (by rw [HN.out]; exact HNX.out) hdc
  have hcl : cs.length = (used k).length := by
    have h2 := layS_length k
    rw [h2] at q1
    simp at q1
    omega
  have HC2 : Hid ((∀ c ∈ cs, c.ok) ∧ ∀ c ∈ cs, c.s.size ≤ 140737488355328) := Lib.hid ⟨fun c hc => q4 c (by simp [hc]), fun c hc => by
    have h1 := cell_size (layS k) (y :: z :: cs) bs (by rw [HN.out]; exact HNX.out) hdc c (by simp [hc])
    rw [HN.out] at h1
    omega⟩
  obtain ⟨g, c, rfl, _, hc1, hc2, hg1, hg2, hcs⟩ := own_cells hown (by simp)
  have HB5 := Lib.hid (HB4.out.trans (hb5.mono HB4.out.size))
  have HA5 := Lib.hid (HA4.out.below hb5 (by omega))
  have HG5 := Lib.hid (HG4.out.below hb5 (by omega))
  have cg : w5.cell? ⟨g, 0, none⟩ = some (.int .i64 ((n : Int) - 2)) := by
    obtain ⟨b', o, hb1, _, hb2, _⟩ := F.Cs.at_ (k := 0) hcs (by simp)
    injection hb1 with hb1
    injection hb1 with hb1 hb3 _
    subst hb1 hb3
    rw [← HN.out, ← hyn]
    simpa using hb2
  have HCS : Hid (F.Cs w5 w5.heap.size (some ⟨g, 0, none⟩) (y :: z :: cs)) := Lib.hid hcs
  obtain ⟨m, HM⟩ : ∃ m, H.Shut ((used k).length = m) := ⟨_, ⟨rfl⟩⟩
  have hm9 : m ≤ 9 := by rw [← HM.out]; exact used_len k
  have hml : (y :: z :: cs).length = m + 2 := by simp [hcl, HM.out]
  rw [hml]
  rw [hml] at hc1
  have HCL : Hid (cs.length = m) := Lib.hid (by rw [hcl, HM.out])
  have HF0 := Lib.hid hf0
  have hz5 : w4.heap.size ≤ w5.heap.size := hb5.size
  have c0 : w5.cell? ⟨w1.heap.size, 0, none⟩ = some (.int .i64 k) := by
    have h1 := HG5.out.cell 0
    rw [h1, HK.out]
    rfl
  clear hdc hdec hown hyn hcs hml hf0 q1 q2 q3 q4 hcl HA4 HG4 HB4 hb5 HE4 HE54 HR4 HMX HKN
  go_wp2_with fail
  with_reducible refine (fieldsOf_any k w5).mono ?_
  rintro e w6 ⟨A6, rfl, HV6⟩
  obtain ⟨L, HL⟩ : ∃ L, H.Shut (used k = L) := ⟨_, ⟨rfl⟩⟩
  have HM2 : H.Shut (L.length = m) := ⟨by rw [← HL.out, HM.out]⟩
  rw [HL.out, HM2.out]
  have hz6 : w5.heap.size ≤ w6.heap.size := HV6.out.2.1.size
  have HB6 := Lib.hid (HB5.out.trans (HV6.out.2.1.mono HB5.out.size))
  have HA6 := Lib.hid (HA5.out.below HV6.out.2.1 (by omega))
  have HG6 := Lib.hid (HG5.out.below HV6.out.2.1 (by omega))
  have HCS6 : Hid (F.Cs w6 w5.heap.size (some ⟨g, 0, none⟩) (y :: z :: cs)) := Lib.hid (HCS.out.keep HV6.out.2.1)
  have HRD : Hid (Rd w6 w6.heap.size A6 (L.map nv)) := Lib.hid (by rw [← HL.out]; exact HV6.out.1)
  have HAT : Hid (∀ ad, A6 = some ad → w5.heap.size ≤ ad.block) := Lib.hid HV6.out.2.2
  obtain ⟨gf, HGF⟩ : ∃ gf, H.Shut (w1.heap.size = gf) := ⟨_, ⟨rfl⟩⟩
  have HGR : Hid (Row w6 gf 25 ((zf k).cells 0)) := Lib.hid (by rw [← HGF.out, ← HK.out]; exact HG6.out)
  have hgf1 : w.heap.size < gf := by rw [← HGF.out]; exact hz1
  have hgf2 : gf < w5.heap.size := by rw [← HGF.out]; omega
  have hgg : gf ≠ g := by rw [← HGF.out]; omega
  rw [HGF.out]
  have HLX : H.Shut (∀ x ∈ L, x < 9) := ⟨by rw [← HL.out]; exact used_lt k⟩
  clear HV6 HA5 HG5 HB5 HCS c0 cg HG6
  go_wp2_with fail
  go_loopw [41] (fun i W => ∃ j : Nat, j ≤ m ∧ i = .int .i64 j ∧ ∃ f : Fr, H.Shut (Row W gf 25 (f.cells f.bs.length) ∧ f.pl = fill (zf k) (L.take j) (cs.take j) ∧ f.ok W W.heap.size ∧ Sole gf w6 W ∧ (j < m → f.bare) ∧ f.new w)) (fun i _ => m - (intOf i).toNat)
  case atStart => exact ⟨0, Nat.zero_le _, rfl, zf k, ⟨HGR.out, by simp [fill]; rfl, zf_ok k _ _ hk255, Sole.refl _ _, fun _ => ⟨rfl, rfl, rfl⟩, fun h => absurd rfl h⟩⟩
  case round =>
    obtain ⟨j, hj, rfl, f, HI⟩ := hrel
    by_cases hlt : j < m
    · have hj2 : j < L.length := by rw [HM2.out]; exact hlt
      have hj3 : j < cs.length := by rw [HCL.out]; exact hlt
      have HS0 := Lib.hid HI.out.2.2.2.1
      obtain ⟨ad, rfl, hab, hcx⟩ := Rd.cell (k := j) (u := nv L[j]) HRD.out (by simp [hj2])
      have hcx2 : wr.cell? (ad.add j) = some (nv L[j]) := (HS0.out.cell (by rw [add_block]; exact hab) (by rw [add_block]; have := HAT.out ad rfl; omega)).trans hcx
      have hx9 : L[j] < 9 := HLX.out _ (List.getElem_mem hj2)
      have hcell : wr.cell? ⟨g, (2 + j) * 3, none⟩ = some (.int .i64 cs[j].n) ∧ wr.cell? ⟨g, (2 + j) * 3 + 1, none⟩ = some (.float .f64 cs[j].f) ∧ wr.cell? ⟨g, (2 + j) * 3 + 2, none⟩ = some (.string cs[j].s) := by
        obtain ⟨b', o, hb1, _, hb2, hb3, hb4⟩ := F.Cs.at_ (k := 2 + j) HCS6.out (by simp []; omega)
        injection hb1 with hb1
        injection hb1 with hb1 hb5 _
        subst hb1 hb5
        have e : (y :: z :: cs)[2 + j]'(by simp; omega) = cs[j] := by simp [Nat.add_comm 2 j]
        rw [e] at hb2 hb3 hb4
        simp only [Nat.zero_add] at hb2 hb3 hb4
        have hgs : g < w6.heap.size := by omega
        exact ⟨(HS0.out.cell (p := ⟨g, (2 + j) * 3, none⟩) hgs (Ne.symm hgg)).trans hb2, (HS0.out.cell (p := ⟨g, (2 + j) * 3 + 1, none⟩) hgs (Ne.symm hgg)).trans hb3, (HS0.out.cell (p := ⟨g, (2 + j) * 3 + 2, none⟩) hgs (Ne.symm hgg)).trans hb4⟩
      have HCO : Hid (cs[j].ok ∧ cs[j].s.size ≤ 140737488355328) := Lib.hid ⟨HC2.out.1 _ (List.getElem_mem hj3), HC2.out.2 _ (List.getElem_mem hj3)⟩
      have HFS : H.Shut (fill (zf k) (L.take (j + 1)) (cs.take (j + 1)) = setF (fill (zf k) (L.take j) (cs.take j)) L[j] cs[j] none 0) := ⟨fill_snoc L cs (zf k) j hj2 hj3⟩
      have HL8 : Hid (j + 1 < m → L[j] ≠ 8) := Lib.hid (fun h => by
        have h1 := used_last8 k j (by rw [HM.out]; exact h)
        have e : (used k)[j]'(by rw [HM.out]; omega) = L[j] := by simp only [HL.out]
        rw [e] at h1
        exact h1)
      generalize L[j] = x1 at *
      generalize cs[j] = c1 at *
      unfold nv at hcx2
      obtain ⟨d0, d1, d2⟩ := hcell
      obtain ⟨n1, f1, s1⟩ := c1
      simp only at d0 d1 d2
      clear hcx
      go_wp2_with fail
      have HCV : Hid (Value.agg #[.int .i64 n1, .float .f64 f1, .string s1] = (⟨n1, f1, s1⟩ : F.FC).v) := Lib.hid rfl
      with_reducible refine (setField_any f x1 ⟨n1, f1, s1⟩ (.agg #[.int .i64 n1, .float .f64 f1, .string s1]) gf wr HCV hx9 HI.out.1 HI.out.2.2.1 HCO.out.1 (HI.out.2.2.2.2.1 hlt) (fun _ => HCO.out.2)).mono ?_
      rintro e w7 ⟨rfl, A7, C7, HV7⟩
      have HX8 : Hid (j + 1 < m → x1 < 8) := Lib.hid (fun h => by have := HL8.out h; omega)
      have HI7 : H.Shut (Row w7 gf 25 ((setF f x1 ⟨n1, f1, s1⟩ A7 C7).cells (setF f x1 ⟨n1, f1, s1⟩ A7 C7).bs.length) ∧ (setF f x1 ⟨n1, f1, s1⟩ A7 C7).pl = fill (zf k) (L.take (j + 1)) (cs.take (j + 1)) ∧ (setF f x1 ⟨n1, f1, s1⟩ A7 C7).ok w7 w7.heap.size ∧ Sole gf w6 w7 ∧ (j + 1 < m → (setF f x1 ⟨n1, f1, s1⟩ A7 C7).bare) ∧ (setF f x1 ⟨n1, f1, s1⟩ A7 C7).new w) := ⟨HV7.out.1, by
        rw [setF_pl, HI.out.2.1, HFS.out]
        exact setF_plain _ _ _ (fill_plain _ _ _ rfl), HV7.out.2.2.1, HI.out.2.2.2.1.trans HV7.out.2.1, fun h => HV7.out.2.2.2.1 (HX8.out h), HV7.out.2.2.2.2.old (Nat.le_trans HB6.out.size HI.out.2.2.2.1.size)⟩
      clear HV7 HI HFS HCO
      go_wp2_with fail
      exact ⟨⟨j + 1, by omega, by go_num, _, HI7⟩, by simp [intOf]; omega⟩
    · have HE1 : H.Shut (f.pl = f0) := ⟨by
        rw [HI.out.2.1, HF0.out, List.take_of_length_le (by rw [HM2.out]; omega), List.take_of_length_le (by rw [HCL.out]; omega), ← HL.out]⟩
      obtain ⟨n9, HN9⟩ : ∃ n9, H.Shut (f.bs.length = n9) := ⟨_, ⟨rfl⟩⟩
      have HRW : Hid (Row wr gf 25 (f.cells n9)) := Lib.hid (by rw [← HN9.out]; exact HI.out.1)
      have HFO := Lib.hid HI.out.2.2.1
      have HSW := Lib.hid HI.out.2.2.2.1
      have HNW := Lib.hid HI.out.2.2.2.2.2
      have HAW : Hid (Row wr w.heap.size 25 zeroC) := Lib.hid (HSW.out.row HA6.out (by omega))
      have HBW : Hid (Below w.heap.size w wr) := Lib.hid (below_of_sole HB6.out HSW.out (Nat.le_of_lt hgf1) (by omega))
      have HLD : Hid ((Tryd.prog.info? 25).map (·.size) = some (f.cells n9).length) := Lib.hid size25
      clear HI
      go_wp2_with (first
        | (refine wl_load rfl 25 (.tmp 4) rfl gf rfl 25 _ _ HRW.out under25.choose_spec rfl size25 ?_
           intro vq HVQ)
        | (refine wl_store rfl 25 (.tmp 2) (.tmp 54) rfl w.heap.size _ (f.cells n9) rfl HVQ.out rfl 25 _ HAW.out HLD.out rfl (cells_ok f n9) ?_
           intro w8 HR8 HS8 HZ8))
      refine bodyPost_ret (v := .tuple #[.agg (f.cells n9).toArray, .nilIface]) (results_cell_two Tryd.results50 _ w8 w.heap.size 25 (f.cells n9) _ _ rfl rfl HR8.out under25.choose_spec rfl HLD.out) rfl ?_
      have hz8 : w8.heap.size = wr.heap.size := HZ8.out
      refine ⟨f, .agg (f.cells n9).toArray, rfl, Lib.hid ⟨by rw [← HN9.out]; rfl, HE1.out, ?_, HBW.out.trans (HS8.out.below (Nat.le_refl _) HBW.out.size), HNW.out⟩⟩
      refine { HFO.out with rd := ?_ }
      rw [hz8]
      exact rd_sole_row HFO.out HRW.out HAW.out HS8.out
end Go.Proofs.YtmhfhdbaeijcfaaDoor
namespace Go.Proofs.YtmhfhdbaeijcfaaDoor
open Go.RowKit
open Go.Proofs.YtmhfhdbaeijcfaaDoor.H
attribute [local go_sem] F.run_store_f64

set_option maxRecDepth 100000 in
set_option maxHeartbeats 2000000 in
theorem get_size (n c : Nat) (A : Option Addr) (te : TypeId) (pe : Value) (w : World) (hE : w.cell? ⟨0, 0, none⟩ = some (.iface te pe)) (h20 : 20 ≤ w.heap.size) (hmax : n ≤ 9223372036854775807) (hb : n < 7 ∨ 1024 < n) :
    Calls Tryd.prog 21 #[.slice A n c] w fun e w' => e = .returned (.tuple #[.agg zeroC.toArray, .iface te pe]) ∧ Hid (Below w.heap.size w w') := by
  have HE := Lib.hid hE
  clear hE
  have HLZ : Hid ((Tryd.prog.info? 25).map (·.size) = some zeroC.length) := Lib.hid size25
  rcases hb with hb | hb
  · go_enter Tryd.func21, Tryd.ntmps21
    go_wp2_with (first
      | (refine wl_alloc (o := ⟨some 2, _, _, _, _, _⟩) rfl 25 rfl _ _ info25' ?_
         intro w1 HA1 HB1 HZ1))
    have z0 : w1.cell? ⟨w.heap.size, 0, none⟩ = some (.int .i64 0) := HA1.out.cell 0
    have z1 : w1.cell? ⟨w.heap.size, 1, none⟩ = some (.int .i64 0) := HA1.out.cell 1
    have z2 : w1.cell? ⟨w.heap.size, 2, none⟩ = some (.int .i64 0) := HA1.out.cell 2
    have z3 : w1.cell? ⟨w.heap.size, 3, none⟩ = some (.int .i64 0) := HA1.out.cell 3
    have z4 : w1.cell? ⟨w.heap.size, 4, none⟩ = some (.int .i64 0) := HA1.out.cell 4
    have z5 : w1.cell? ⟨w.heap.size, 5, none⟩ = some (.int .i64 0) := HA1.out.cell 5
    have z6 : w1.cell? ⟨w.heap.size, 6, none⟩ = some (.string ⟨#[]⟩) := HA1.out.cell 6
    have z7 : w1.cell? ⟨w.heap.size, 7, none⟩ = some (.string ⟨#[]⟩) := HA1.out.cell 7
    have z8 : w1.cell? ⟨w.heap.size, 8, none⟩ = some (.float .f64 0) := HA1.out.cell 8
    have z9 : w1.cell? ⟨w.heap.size, 9, none⟩ = some (.slice none 0 0) := HA1.out.cell 9
    have fzz : ∀ i, w1.frozen? ⟨w.heap.size, i, none⟩ = false := HA1.out.frozen
    have ce : w1.cell? ⟨0, 0, none⟩ = some (.iface te pe) := (HB1.out.cell (p := ⟨0, 0, none⟩) (show 0 < w.heap.size by omega)).trans HE.out
    go_wp2_with fail
    go_region
    all_goals
      change Exit.then _ _ _ _ (rezero w1 w.heap.size).drew
      have HRz : Hid (Row (rezero w1 w.heap.size).drew w.heap.size 25 zeroC) := Lib.hid (row_drew (rezero_row HA1.out))
      have HBz : Hid (Below w.heap.size w (rezero w1 w.heap.size).drew) := Lib.hid (rezero_below HB1.out (Nat.le_refl _)).drew
      generalize (rezero w1 w.heap.size).drew = wz at *
      clear z0 z1 z2 z3 z4 z5 z6 z7 z8 z9 fzz ce
      go_wp2_with fail
      refine bodyPost_ret (v := .tuple #[.agg zeroC.toArray, .iface te pe]) (results_cell_two Tryd.results21 _ wz w.heap.size 25 zeroC _ _ rfl rfl HRz.out under25.choose_spec rfl HLZ.out) rfl ?_
      exact ⟨rfl, HBz⟩
  · go_enter Tryd.func21, Tryd.ntmps21
    go_wp2_with (first
      | (refine wl_alloc (o := ⟨some 2, _, _, _, _, _⟩) rfl 25 rfl _ _ info25' ?_
         intro w1 HA1 HB1 HZ1))
    have z0 : w1.cell? ⟨w.heap.size, 0, none⟩ = some (.int .i64 0) := HA1.out.cell 0
    have z1 : w1.cell? ⟨w.heap.size, 1, none⟩ = some (.int .i64 0) := HA1.out.cell 1
    have z2 : w1.cell? ⟨w.heap.size, 2, none⟩ = some (.int .i64 0) := HA1.out.cell 2
    have z3 : w1.cell? ⟨w.heap.size, 3, none⟩ = some (.int .i64 0) := HA1.out.cell 3
    have z4 : w1.cell? ⟨w.heap.size, 4, none⟩ = some (.int .i64 0) := HA1.out.cell 4
    have z5 : w1.cell? ⟨w.heap.size, 5, none⟩ = some (.int .i64 0) := HA1.out.cell 5
    have z6 : w1.cell? ⟨w.heap.size, 6, none⟩ = some (.string ⟨#[]⟩) := HA1.out.cell 6
    have z7 : w1.cell? ⟨w.heap.size, 7, none⟩ = some (.string ⟨#[]⟩) := HA1.out.cell 7
    have z8 : w1.cell? ⟨w.heap.size, 8, none⟩ = some (.float .f64 0) := HA1.out.cell 8
    have z9 : w1.cell? ⟨w.heap.size, 9, none⟩ = some (.slice none 0 0) := HA1.out.cell 9
    have fzz : ∀ i, w1.frozen? ⟨w.heap.size, i, none⟩ = false := HA1.out.frozen
    have ce : w1.cell? ⟨0, 0, none⟩ = some (.iface te pe) := (HB1.out.cell (p := ⟨0, 0, none⟩) (show 0 < w.heap.size by omega)).trans HE.out
    go_wp2_with fail
    go_region
    all_goals
      change Exit.then _ _ _ _ (rezero w1 w.heap.size).drew
      have HRz : Hid (Row (rezero w1 w.heap.size).drew w.heap.size 25 zeroC) := Lib.hid (row_drew (rezero_row HA1.out))
      have HBz : Hid (Below w.heap.size w (rezero w1 w.heap.size).drew) := Lib.hid (rezero_below HB1.out (Nat.le_refl _)).drew
      generalize (rezero w1 w.heap.size).drew = wz at *
      clear z0 z1 z2 z3 z4 z5 z6 z7 z8 z9 fzz ce
      go_wp2_with fail
      refine bodyPost_ret (v := .tuple #[.agg zeroC.toArray, .iface te pe]) (results_cell_two Tryd.results21 _ wz w.heap.size 25 zeroC _ _ rfl rfl HRz.out under25.choose_spec rfl HLZ.out) rfl ?_
      exact ⟨rfl, HBz⟩

end Go.Proofs.YtmhfhdbaeijcfaaDoor
namespace Go.Proofs.YtmhfhdbaeijcfaaDoor
open Go.RowKit
open Go.Proofs.YtmhfhdbaeijcfaaDoor.H
attribute [local go_sem] F.run_store_f64

/-- A frame loaded behind a guard that holds. -/
theorem wl_loadF {w : World} {ops : Array Oper} {rest : List Oper} {o : Oper} {a : Act} {Q : Exit → Act → World → Prop} (hw : Region.wanted o (yielded ops a.tmps) = true) (x : Operand) (ho : o.op = .load 25 x)
    (g : Nat) (hx : a.eval x = .pointer (some ⟨g, 0, none⟩)) (cs : List Value) (hr : Row w g 25 cs) (hi : (Tryd.prog.info? 25).map (·.size) = some cs.length)
    (h : ∀ v, Hid (v = Value.agg cs.toArray) → wpList Tryd.prog ops Q rest (a.put o.dst v) w) : wpList Tryd.prog ops Q (o :: rest) a w := by
  refine wpList_step fun K hK => ?_
  rw [if_pos hw]
  exact wp_load_mid 25 x ho g 0 hx cs _ (hr.range (es := []) (by simp)) under25.choose_spec rfl hi (hK _ _ (h _ (Lib.hid rfl)))

set_option maxRecDepth 100000 in
set_option maxHeartbeats 4000000 in
theorem get_seal (p c : Nat) (b : Addr) (bs : List UInt8) (E : Nat → Value) (te : TypeId) (pe : Value) (w : World) (hE : Env w E te pe) (hE5 : F.Errs w E) (hn : bs.length = p + 4) (h3 : 3 ≤ p) (hp : p ≤ 1020) (hc : p + 4 ≤ c) (_hcm : c ≤ 9223372036854775807) (hr : Rd w w.heap.size (some b) (bs.map bv)) (hne : sealB (bs.take p) ≠ bs) :
    Calls Tryd.prog 21 #[.slice (some b) (p + 4) c] w fun e w' => e = .returned (.tuple #[.agg zeroC.toArray, .iface te pe]) ∧ Hid (Below w.heap.size w w') := by
  have HNQ : Hid (bs.take p ++ (digest (bs.take p)).take 4 ≠ bs) := Lib.hid hne
  clear hne
  have HE := Lib.hid hE
  have HE5 := Lib.hid hE5
  have h20 := hE.size
  have HN := Lib.hid hn
  have HR := Lib.hid hr
  have HL : Hid ((bs.take p).length = p) := Lib.hid (by rw [List.length_take, hn]; omega)
  clear hE hE5 hn hr
  have HLZ : Hid ((Tryd.prog.info? 25).map (·.size) = some zeroC.length) := Lib.hid size25
  go_enter Tryd.func21, Tryd.ntmps21
  go_wp2_with (first
    | (refine wl_alloc (o := ⟨some 2, _, _, _, _, _⟩) rfl 25 rfl _ _ info25' ?_
       intro w1 HA1 HB1 HZ1))
  have hz1 : w.heap.size < w1.heap.size := by rw [HZ1.out]; omega
  have HE1 := Lib.hid (HE.out.below h20 HB1.out)
  have HR1 := Lib.hid ((HR.out.below HB1.out).more (Nat.le_of_lt hz1))
  have HRT : Hid (Rd w1 w1.heap.size (some b) ((bs.take p).map bv)) := Lib.hid (by rw [List.map_take]; exact HR1.out.take p)
  have HCT : Hid (∀ (j : Nat) (u : Value), ((bs.take p).map bv)[j]? = some u → w1.cell? (b.add j) = some u) := Lib.hid (fun j u hj => by
    obtain ⟨ad, he, _, hcc⟩ := HRT.out.cell hj
    injection he with he
    rw [he]
    exact hcc)
  with_reducible refine (sealed_new p b (bs.take p) w1 HE1.out.kt HL.out (by omega) HRT.out HCT.out).mono ?_
  rintro e w2 ⟨A2, c2, rfl, HV2⟩
  have HB2 := Lib.hid (HB1.out.trans (HV2.out.2.mono (Nat.le_of_lt hz1)))
  have HA2 := Lib.hid (HA1.out.below HV2.out.2 hz1)
  have hz2 : w1.heap.size ≤ w2.heap.size := HV2.out.2.size
  have HR2 := Lib.hid ((HR1.out.below HV2.out.2).more hz2)
  have HS2 := Lib.hid HV2.out.1
  have HLS : Hid ((bs.take p ++ (digest (bs.take p)).take 4).length = p + 4) := Lib.hid (by rw [List.length_append, HL.out, List.length_take, digest_length]; rfl)
  clear HV2 HA1 HB1 HZ1 HE1 HR1
  go_wp2_with fail
  with_reducible refine (equal_other (p + 4) (p + 4) c2 c A2 (some b) _ bs w2 HLS.out HN.out HS2.out HR2.out HNQ.out).mono ?_
  rintro e _ ⟨rfl, rfl⟩
  clear HNQ HLS HR2 HS2
  have z0 : w2.cell? ⟨w.heap.size, 0, none⟩ = some (.int .i64 0) := HA2.out.cell 0
  have z1 : w2.cell? ⟨w.heap.size, 1, none⟩ = some (.int .i64 0) := HA2.out.cell 1
  have z2 : w2.cell? ⟨w.heap.size, 2, none⟩ = some (.int .i64 0) := HA2.out.cell 2
  have z3 : w2.cell? ⟨w.heap.size, 3, none⟩ = some (.int .i64 0) := HA2.out.cell 3
  have z4 : w2.cell? ⟨w.heap.size, 4, none⟩ = some (.int .i64 0) := HA2.out.cell 4
  have z5 : w2.cell? ⟨w.heap.size, 5, none⟩ = some (.int .i64 0) := HA2.out.cell 5
  have z6 : w2.cell? ⟨w.heap.size, 6, none⟩ = some (.string ⟨#[]⟩) := HA2.out.cell 6
  have z7 : w2.cell? ⟨w.heap.size, 7, none⟩ = some (.string ⟨#[]⟩) := HA2.out.cell 7
  have z8 : w2.cell? ⟨w.heap.size, 8, none⟩ = some (.float .f64 0) := HA2.out.cell 8
  have z9 : w2.cell? ⟨w.heap.size, 9, none⟩ = some (.slice none 0 0) := HA2.out.cell 9
  have fzz : ∀ i, w2.frozen? ⟨w.heap.size, i, none⟩ = false := HA2.out.frozen
  have ce : w2.cell? ⟨0, 0, none⟩ = some (.iface te pe) := (HE.out.below h20 HB2.out).ef
  go_wp2_with fail
  go_region
  all_goals
    change Exit.then _ _ _ _ (rezero w2 w.heap.size).drew
    have HRz : Hid (Row (rezero w2 w.heap.size).drew w.heap.size 25 zeroC) := Lib.hid (row_drew (rezero_row HA2.out))
    have HBz : Hid (Below w.heap.size w (rezero w2 w.heap.size).drew) := Lib.hid (rezero_below HB2.out (Nat.le_refl _)).drew
    generalize (rezero w2 w.heap.size).drew = wz at *
    clear z0 z1 z2 z3 z4 z5 z6 z7 z8 z9 fzz ce
    go_wp2_with fail
    refine bodyPost_ret (v := .tuple #[.agg zeroC.toArray, .iface te pe]) (results_cell_two Tryd.results21 _ wz w.heap.size 25 zeroC _ _ rfl rfl HRz.out under25.choose_spec rfl HLZ.out) rfl ?_
    exact ⟨rfl, HBz⟩

set_option maxRecDepth 100000 in
set_option maxHeartbeats 4000000 in
theorem get_shut (p c : Nat) (b : Addr) (bs : List UInt8) (E : Nat → Value) (te : TypeId) (pe : Value) (w : World) (hE : Env w E te pe) (hE5 : F.Errs w E) (hn : bs.length = p + 4) (h3 : 3 ≤ p) (hp : p ≤ 1020) (hc : p + 4 ≤ c) (_hcm : c ≤ 9223372036854775807) (hr : Rd w w.heap.size (some b) (bs.map bv)) (heq : sealB (bs.take p) = bs) (hop : openB (bs.take p) = none) :
    Calls Tryd.prog 21 #[.slice (some b) (p + 4) c] w fun e w' => e = .returned (.tuple #[.agg zeroC.toArray, .iface te pe]) ∧ Hid (Below w.heap.size w w') := by
  have HEQ : H.Shut (bs.take p ++ (digest (bs.take p)).take 4 = bs) := ⟨heq⟩
  have HOP := Lib.hid hop
  clear heq hop
  have HE := Lib.hid hE
  have HE5 := Lib.hid hE5
  have h20 := hE.size
  have HN := Lib.hid hn
  have HR := Lib.hid hr
  have HL : Hid ((bs.take p).length = p) := Lib.hid (by rw [List.length_take, hn]; omega)
  clear hE hE5 hn hr
  have HLZ : Hid ((Tryd.prog.info? 25).map (·.size) = some zeroC.length) := Lib.hid size25
  go_enter Tryd.func21, Tryd.ntmps21
  go_wp2_with (first
    | (refine wl_alloc (o := ⟨some 2, _, _, _, _, _⟩) rfl 25 rfl _ _ info25' ?_
       intro w1 HA1 HB1 HZ1))
  have hz1 : w.heap.size < w1.heap.size := by rw [HZ1.out]; omega
  have HE1 := Lib.hid (HE.out.below h20 HB1.out)
  have HR1 := Lib.hid ((HR.out.below HB1.out).more (Nat.le_of_lt hz1))
  have HRT : Hid (Rd w1 w1.heap.size (some b) ((bs.take p).map bv)) := Lib.hid (by rw [List.map_take]; exact HR1.out.take p)
  have HCT : Hid (∀ (j : Nat) (u : Value), ((bs.take p).map bv)[j]? = some u → w1.cell? (b.add j) = some u) := Lib.hid (fun j u hj => by
    obtain ⟨ad, he, _, hcc⟩ := HRT.out.cell hj
    injection he with he
    rw [he]
    exact hcc)
  with_reducible refine (sealed_new p b (bs.take p) w1 HE1.out.kt HL.out (by omega) HRT.out HCT.out).mono ?_
  rintro e w2 ⟨A2, c2, rfl, HV2⟩
  have HB2 := Lib.hid (HB1.out.trans (HV2.out.2.mono (Nat.le_of_lt hz1)))
  have HA2 := Lib.hid (HA1.out.below HV2.out.2 hz1)
  have hz2 : w1.heap.size ≤ w2.heap.size := HV2.out.2.size
  have HR2 := Lib.hid ((HR1.out.below HV2.out.2).more hz2)
  have HS2 := Lib.hid HV2.out.1
  have HLS : Hid ((bs.take p ++ (digest (bs.take p)).take 4).length = p + 4) := Lib.hid (by rw [List.length_append, HL.out, List.length_take, digest_length]; rfl)
  clear HV2 HA1 HB1 HZ1 HE1 HR1
  go_wp2_with fail
  rw [HEQ.out] at HS2
  with_reducible refine (equal_same (p + 4) c2 c A2 (some b) bs w2 HN.out HS2.out HR2.out).mono ?_
  rintro e _ ⟨rfl, rfl⟩
  clear HLS
  have HE2 := Lib.hid (HE.out.below h20 HB2.out)
  have HE52 := Lib.hid (HE5.out.below h20 HB2.out)
  have HRT2 : Hid (Rd w2 w2.heap.size (some b) ((bs.take p).map bv)) := Lib.hid (by rw [List.map_take]; exact HR2.out.take p)
  go_wp2_with fail
  with_reducible refine (opened_none p b (bs.take p) E te pe w2 HE2.out HE52.out HL.out h3 (by omega) HRT2.out HOP.out).mono ?_
  rintro e w3 ⟨tq, pq, rfl, HV3⟩
  have HB3 := Lib.hid (HB2.out.trans (HV3.out.mono HB2.out.size))
  have HA3 := Lib.hid (HA2.out.below HV3.out (by omega))
  have hz3 : w2.heap.size ≤ w3.heap.size := HV3.out.size
  clear HV3 HA2 HB2 HE2 HE52 HRT2 HR2 HS2
  go_wp2_with (first
    | (refine wl_alloc (o := ⟨some 6, _, _, _, _, _⟩) rfl 25 rfl _ _ info25' ?_
       intro w4 HA4 HB4 HZ4)
    | (refine wl_store rfl 25 (.tmp 6) (.tmp 35) rfl w3.heap.size _ zeroC rfl rfl rfl 25 _ HA4.out HLZ.out rfl zeroC_one ?_
       intro w5 HR5 HS5 HZ5))
  have hz4 : w3.heap.size < w4.heap.size := by rw [HZ4.out]; omega
  have hb35 : Below w3.heap.size w3 w5 := HB4.out.trans (HS5.out.below (Nat.le_refl _) (by omega))
  have HB5 := Lib.hid (HB3.out.trans (hb35.mono HB3.out.size))
  have HA5 := Lib.hid (HA3.out.below hb35 (by omega))
  clear HA4 HB4 HZ4 HR5 HS5 HZ5 hb35 HA3 HB3
  have z0 : w5.cell? ⟨w.heap.size, 0, none⟩ = some (.int .i64 0) := HA5.out.cell 0
  have z1 : w5.cell? ⟨w.heap.size, 1, none⟩ = some (.int .i64 0) := HA5.out.cell 1
  have z2 : w5.cell? ⟨w.heap.size, 2, none⟩ = some (.int .i64 0) := HA5.out.cell 2
  have z3 : w5.cell? ⟨w.heap.size, 3, none⟩ = some (.int .i64 0) := HA5.out.cell 3
  have z4 : w5.cell? ⟨w.heap.size, 4, none⟩ = some (.int .i64 0) := HA5.out.cell 4
  have z5 : w5.cell? ⟨w.heap.size, 5, none⟩ = some (.int .i64 0) := HA5.out.cell 5
  have z6 : w5.cell? ⟨w.heap.size, 6, none⟩ = some (.string ⟨#[]⟩) := HA5.out.cell 6
  have z7 : w5.cell? ⟨w.heap.size, 7, none⟩ = some (.string ⟨#[]⟩) := HA5.out.cell 7
  have z8 : w5.cell? ⟨w.heap.size, 8, none⟩ = some (.float .f64 0) := HA5.out.cell 8
  have z9 : w5.cell? ⟨w.heap.size, 9, none⟩ = some (.slice none 0 0) := HA5.out.cell 9
  have fzz : ∀ i, w5.frozen? ⟨w.heap.size, i, none⟩ = false := HA5.out.frozen
  have ce : w5.cell? ⟨0, 0, none⟩ = some (.iface te pe) := (HE.out.below h20 HB5.out).ef
  go_wp2_with fail
  go_region
  all_goals
    change Exit.then _ _ _ _ (rezero w5 w.heap.size).drew
    have HRz : Hid (Row (rezero w5 w.heap.size).drew w.heap.size 25 zeroC) := Lib.hid (row_drew (rezero_row HA5.out))
    have HBz : Hid (Below w.heap.size w (rezero w5 w.heap.size).drew) := Lib.hid (rezero_below HB5.out (Nat.le_refl _)).drew
    generalize (rezero w5 w.heap.size).drew = wz at *
    clear z0 z1 z2 z3 z4 z5 z6 z7 z8 z9 fzz ce
    go_wp2_with fail
    refine bodyPost_ret (v := .tuple #[.agg zeroC.toArray, .iface te pe]) (results_cell_two Tryd.results21 _ wz w.heap.size 25 zeroC _ _ rfl rfl HRz.out under25.choose_spec rfl HLZ.out) rfl ?_
    exact ⟨rfl, HBz⟩

set_option maxRecDepth 100000 in
set_option maxHeartbeats 4000000 in
theorem get_bad (p c : Nat) (b : Addr) (bs : List UInt8) (E : Nat → Value) (te : TypeId) (pe : Value) (w : World) (hE : Env w E te pe) (hE5 : F.Errs w E) (hn : bs.length = p + 4) (h3 : 3 ≤ p) (hp : p ≤ 1020) (hc : p + 4 ≤ c) (_hcm : c ≤ 9223372036854775807) (hr : Rd w w.heap.size (some b) (bs.map bv)) (heq : sealB (bs.take p) = bs) (f0 : Fr) (hop : openB (bs.take p) = some f0) (hv : valid f0 = false) :
    Calls Tryd.prog 21 #[.slice (some b) (p + 4) c] w fun e w' => e = .returned (.tuple #[.agg zeroC.toArray, .iface te pe]) ∧ Hid (Below w.heap.size w w') := by
  have HEQ : H.Shut (bs.take p ++ (digest (bs.take p)).take 4 = bs) := ⟨heq⟩
  have HOP := Lib.hid hop
  have HVL := Lib.hid hv
  clear heq hop hv
  have HE := Lib.hid hE
  have HE5 := Lib.hid hE5
  have h20 := hE.size
  have HN := Lib.hid hn
  have HR := Lib.hid hr
  have HL : Hid ((bs.take p).length = p) := Lib.hid (by rw [List.length_take, hn]; omega)
  clear hE hE5 hn hr
  have HLZ : Hid ((Tryd.prog.info? 25).map (·.size) = some zeroC.length) := Lib.hid size25
  go_enter Tryd.func21, Tryd.ntmps21
  go_wp2_with (first
    | (refine wl_alloc (o := ⟨some 2, _, _, _, _, _⟩) rfl 25 rfl _ _ info25' ?_
       intro w1 HA1 HB1 HZ1))
  have hz1 : w.heap.size < w1.heap.size := by rw [HZ1.out]; omega
  have HE1 := Lib.hid (HE.out.below h20 HB1.out)
  have HR1 := Lib.hid ((HR.out.below HB1.out).more (Nat.le_of_lt hz1))
  have HRT : Hid (Rd w1 w1.heap.size (some b) ((bs.take p).map bv)) := Lib.hid (by rw [List.map_take]; exact HR1.out.take p)
  have HCT : Hid (∀ (j : Nat) (u : Value), ((bs.take p).map bv)[j]? = some u → w1.cell? (b.add j) = some u) := Lib.hid (fun j u hj => by
    obtain ⟨ad, he, _, hcc⟩ := HRT.out.cell hj
    injection he with he
    rw [he]
    exact hcc)
  with_reducible refine (sealed_new p b (bs.take p) w1 HE1.out.kt HL.out (by omega) HRT.out HCT.out).mono ?_
  rintro e w2 ⟨A2, c2, rfl, HV2⟩
  have HB2 := Lib.hid (HB1.out.trans (HV2.out.2.mono (Nat.le_of_lt hz1)))
  have HA2 := Lib.hid (HA1.out.below HV2.out.2 hz1)
  have hz2 : w1.heap.size ≤ w2.heap.size := HV2.out.2.size
  have HR2 := Lib.hid ((HR1.out.below HV2.out.2).more hz2)
  have HS2 := Lib.hid HV2.out.1
  have HLS : Hid ((bs.take p ++ (digest (bs.take p)).take 4).length = p + 4) := Lib.hid (by rw [List.length_append, HL.out, List.length_take, digest_length]; rfl)
  clear HV2 HA1 HB1 HZ1 HE1 HR1
  go_wp2_with fail
  rw [HEQ.out] at HS2
  with_reducible refine (equal_same (p + 4) c2 c A2 (some b) bs w2 HN.out HS2.out HR2.out).mono ?_
  rintro e _ ⟨rfl, rfl⟩
  clear HLS
  have HE2 := Lib.hid (HE.out.below h20 HB2.out)
  have HE52 := Lib.hid (HE5.out.below h20 HB2.out)
  have HRT2 : Hid (Rd w2 w2.heap.size (some b) ((bs.take p).map bv)) := Lib.hid (by rw [List.map_take]; exact HR2.out.take p)
  go_wp2_with fail
  with_reducible refine (opened_some p b (bs.take p) E te pe w2 HE2.out HE52.out HL.out h3 (by omega) HRT2.out f0 HOP.out).mono ?_
  rintro e w3 ⟨f, vf, rfl, HV3⟩
  have HB3 := Lib.hid (HB2.out.trans (HV3.out.2.2.2.1.mono HB2.out.size))
  have HA3 := Lib.hid (HA2.out.below HV3.out.2.2.2.1 (by omega))
  have hz3 : w2.heap.size ≤ w3.heap.size := HV3.out.2.2.2.1.size
  have HF3 := Lib.hid HV3.out.2.2.1
  have HPL := Lib.hid HV3.out.2.1
  have HNW := Lib.hid (HV3.out.2.2.2.2.old HB2.out.size)
  obtain ⟨n9, HN9⟩ : ∃ n9, H.Shut (f.bs.length = n9) := ⟨_, ⟨rfl⟩⟩
  have HVF : Hid (vf = .agg (f.cells n9).toArray) := Lib.hid (by rw [HV3.out.1, ← HN9.out]; rfl)
  have HVF2 : Hid (Value.agg (f.cells n9).toArray = f.v) := Lib.hid (by rw [← HN9.out]; rfl)
  have HLD : Hid ((Tryd.prog.info? 25).map (·.size) = some (f.cells n9).length) := Lib.hid size25
  clear HV3 HA2 HB2 HE2 HE52 HRT2 HR2 HS2
  go_wp2_with (first
    | (refine wl_alloc (o := ⟨some 6, _, _, _, _, _⟩) rfl 25 rfl _ _ info25' ?_
       intro w4 HA4 HB4 HZ4)
    | (refine wl_store rfl 25 (.tmp 6) (.tmp 35) rfl w3.heap.size _ (f.cells n9) rfl HVF.out rfl 25 _ HA4.out HLD.out rfl (cells_ok f n9) ?_
       intro w5 HR5 HS5 HZ5)
    | (refine wl_loadF rfl (.tmp 6) rfl w3.heap.size rfl _ HR5.out HLD.out ?_
       intro vp HVP))
  have hz4 : w3.heap.size < w4.heap.size := by rw [HZ4.out]; omega
  have hz5 : w5.heap.size = w4.heap.size := HZ5.out
  have hb35 : Below w3.heap.size w3 w5 := HB4.out.trans (HS5.out.below (Nat.le_refl _) (by omega))
  have HB5 := Lib.hid (HB3.out.trans (hb35.mono HB3.out.size))
  have HA5 := Lib.hid (HA3.out.below hb35 (by omega))
  have HF5 := Lib.hid ((HF3.out.below hb35).more hb35.size)
  have HE5f := Lib.hid (HE.out.below h20 HB5.out)
  clear HA4 HB4 HZ4 HS5 HZ5 hb35 HA3 HB3 HF3
  have HVP2 : Hid (vp = f.v) := Lib.hid (by rw [HVP.out]; exact HVF2.out)
  with_reducible refine (check_frame f vp (.iface te pe) w5 HVP2 HE5f.out.ef HE5f.out.size HF5.out).mono ?_
  rintro e w6 ⟨rfl, HV6⟩
  have HB6 := Lib.hid (HB5.out.trans (HV6.out.mono HB5.out.size))
  have hz6 : w5.heap.size ≤ w6.heap.size := HV6.out.size
  have HA6 := Lib.hid (HA5.out.below HV6.out (by omega))
  have HR6 := Lib.hid (HR5.out.below HV6.out (by omega))
  have HF6 := Lib.hid ((HF5.out.below HV6.out).more HV6.out.size)
  clear HV6 HVP HVP2 HB5 HA5 HR5 HF5 HE5f
  have hvf : valid f = false := by rw [← valid_pl, HPL.out]; exact HVL.out
  rw [if_neg (by rw [hvf]; decide)]
  clear HR6 HF6
  have z0 : w6.cell? ⟨w.heap.size, 0, none⟩ = some (.int .i64 0) := HA6.out.cell 0
  have z1 : w6.cell? ⟨w.heap.size, 1, none⟩ = some (.int .i64 0) := HA6.out.cell 1
  have z2 : w6.cell? ⟨w.heap.size, 2, none⟩ = some (.int .i64 0) := HA6.out.cell 2
  have z3 : w6.cell? ⟨w.heap.size, 3, none⟩ = some (.int .i64 0) := HA6.out.cell 3
  have z4 : w6.cell? ⟨w.heap.size, 4, none⟩ = some (.int .i64 0) := HA6.out.cell 4
  have z5 : w6.cell? ⟨w.heap.size, 5, none⟩ = some (.int .i64 0) := HA6.out.cell 5
  have z6 : w6.cell? ⟨w.heap.size, 6, none⟩ = some (.string ⟨#[]⟩) := HA6.out.cell 6
  have z7 : w6.cell? ⟨w.heap.size, 7, none⟩ = some (.string ⟨#[]⟩) := HA6.out.cell 7
  have z8 : w6.cell? ⟨w.heap.size, 8, none⟩ = some (.float .f64 0) := HA6.out.cell 8
  have z9 : w6.cell? ⟨w.heap.size, 9, none⟩ = some (.slice none 0 0) := HA6.out.cell 9
  have fzz : ∀ i, w6.frozen? ⟨w.heap.size, i, none⟩ = false := HA6.out.frozen
  have ce : w6.cell? ⟨0, 0, none⟩ = some (.iface te pe) := (HE.out.below h20 HB6.out).ef
  go_wp2_with fail
  go_region
  all_goals
    change Exit.then _ _ _ _ (rezero w6 w.heap.size).drew
    have HRz : Hid (Row (rezero w6 w.heap.size).drew w.heap.size 25 zeroC) := Lib.hid (row_drew (rezero_row HA6.out))
    have HBz : Hid (Below w.heap.size w (rezero w6 w.heap.size).drew) := Lib.hid (rezero_below HB6.out (Nat.le_refl _)).drew
    generalize (rezero w6 w.heap.size).drew = wz at *
    clear z0 z1 z2 z3 z4 z5 z6 z7 z8 z9 fzz ce
    go_wp2_with fail
    refine bodyPost_ret (v := .tuple #[.agg zeroC.toArray, .iface te pe]) (results_cell_two Tryd.results21 _ wz w.heap.size 25 zeroC _ _ rfl rfl HRz.out under25.choose_spec rfl HLZ.out) rfl ?_
    exact ⟨rfl, HBz⟩

set_option maxRecDepth 100000 in
set_option maxHeartbeats 4000000 in
theorem get_good (p c : Nat) (b : Addr) (bs : List UInt8) (E : Nat → Value) (te : TypeId) (pe : Value) (w : World) (hE : Env w E te pe) (hE5 : F.Errs w E) (hn : bs.length = p + 4) (h3 : 3 ≤ p) (hp : p ≤ 1020) (hc : p + 4 ≤ c) (_hcm : c ≤ 9223372036854775807) (hr : Rd w w.heap.size (some b) (bs.map bv)) (heq : sealB (bs.take p) = bs) (f0 : Fr) (hop : openB (bs.take p) = some f0) (hv : valid f0 = true) :
    Calls Tryd.prog 21 #[.slice (some b) (p + 4) c] w fun e w' => ∃ (f : Fr) (v : Value), e = .returned (.tuple #[v, .nilIface]) ∧ Hid (v = f.v ∧ f.pl = f0 ∧ f.ok w' w'.heap.size ∧ Below w.heap.size w w' ∧ f.new w) := by
  have HEQ : H.Shut (bs.take p ++ (digest (bs.take p)).take 4 = bs) := ⟨heq⟩
  have HOP := Lib.hid hop
  have HVL := Lib.hid hv
  clear heq hop hv
  have HE := Lib.hid hE
  have HE5 := Lib.hid hE5
  have h20 := hE.size
  have HN := Lib.hid hn
  have HR := Lib.hid hr
  have HL : Hid ((bs.take p).length = p) := Lib.hid (by rw [List.length_take, hn]; omega)
  clear hE hE5 hn hr
  have HLZ : Hid ((Tryd.prog.info? 25).map (·.size) = some zeroC.length) := Lib.hid size25
  go_enter Tryd.func21, Tryd.ntmps21
  go_wp2_with (first
    | (refine wl_alloc (o := ⟨some 2, _, _, _, _, _⟩) rfl 25 rfl _ _ info25' ?_
       intro w1 HA1 HB1 HZ1))
  have hz1 : w.heap.size < w1.heap.size := by rw [HZ1.out]; omega
  have HE1 := Lib.hid (HE.out.below h20 HB1.out)
  have HR1 := Lib.hid ((HR.out.below HB1.out).more (Nat.le_of_lt hz1))
  have HRT : Hid (Rd w1 w1.heap.size (some b) ((bs.take p).map bv)) := Lib.hid (by rw [List.map_take]; exact HR1.out.take p)
  have HCT : Hid (∀ (j : Nat) (u : Value), ((bs.take p).map bv)[j]? = some u → w1.cell? (b.add j) = some u) := Lib.hid (fun j u hj => by
    obtain ⟨ad, he, _, hcc⟩ := HRT.out.cell hj
    injection he with he
    rw [he]
    exact hcc)
  with_reducible refine (sealed_new p b (bs.take p) w1 HE1.out.kt HL.out (by omega) HRT.out HCT.out).mono ?_
  rintro e w2 ⟨A2, c2, rfl, HV2⟩
  have HB2 := Lib.hid (HB1.out.trans (HV2.out.2.mono (Nat.le_of_lt hz1)))
  have HA2 := Lib.hid (HA1.out.below HV2.out.2 hz1)
  have hz2 : w1.heap.size ≤ w2.heap.size := HV2.out.2.size
  have HR2 := Lib.hid ((HR1.out.below HV2.out.2).more hz2)
  have HS2 := Lib.hid HV2.out.1
  have HLS : Hid ((bs.take p ++ (digest (bs.take p)).take 4).length = p + 4) := Lib.hid (by rw [List.length_append, HL.out, List.length_take, digest_length]; rfl)
  clear HV2 HA1 HB1 HZ1 HE1 HR1
  go_wp2_with fail
  rw [HEQ.out] at HS2
  with_reducible refine (equal_same (p + 4) c2 c A2 (some b) bs w2 HN.out HS2.out HR2.out).mono ?_
  rintro e _ ⟨rfl, rfl⟩
  clear HLS
  have HE2 := Lib.hid (HE.out.below h20 HB2.out)
  have HE52 := Lib.hid (HE5.out.below h20 HB2.out)
  have HRT2 : Hid (Rd w2 w2.heap.size (some b) ((bs.take p).map bv)) := Lib.hid (by rw [List.map_take]; exact HR2.out.take p)
  go_wp2_with fail
  with_reducible refine (opened_some p b (bs.take p) E te pe w2 HE2.out HE52.out HL.out h3 (by omega) HRT2.out f0 HOP.out).mono ?_
  rintro e w3 ⟨f, vf, rfl, HV3⟩
  have HB3 := Lib.hid (HB2.out.trans (HV3.out.2.2.2.1.mono HB2.out.size))
  have HA3 := Lib.hid (HA2.out.below HV3.out.2.2.2.1 (by omega))
  have hz3 : w2.heap.size ≤ w3.heap.size := HV3.out.2.2.2.1.size
  have HF3 := Lib.hid HV3.out.2.2.1
  have HPL := Lib.hid HV3.out.2.1
  have HNW := Lib.hid (HV3.out.2.2.2.2.old HB2.out.size)
  obtain ⟨n9, HN9⟩ : ∃ n9, H.Shut (f.bs.length = n9) := ⟨_, ⟨rfl⟩⟩
  have HVF : Hid (vf = .agg (f.cells n9).toArray) := Lib.hid (by rw [HV3.out.1, ← HN9.out]; rfl)
  have HVF2 : Hid (Value.agg (f.cells n9).toArray = f.v) := Lib.hid (by rw [← HN9.out]; rfl)
  have HLD : Hid ((Tryd.prog.info? 25).map (·.size) = some (f.cells n9).length) := Lib.hid size25
  clear HV3 HA2 HB2 HE2 HE52 HRT2 HR2 HS2
  go_wp2_with (first
    | (refine wl_alloc (o := ⟨some 6, _, _, _, _, _⟩) rfl 25 rfl _ _ info25' ?_
       intro w4 HA4 HB4 HZ4)
    | (refine wl_store rfl 25 (.tmp 6) (.tmp 35) rfl w3.heap.size _ (f.cells n9) rfl HVF.out rfl 25 _ HA4.out HLD.out rfl (cells_ok f n9) ?_
       intro w5 HR5 HS5 HZ5)
    | (refine wl_loadF rfl (.tmp 6) rfl w3.heap.size rfl _ HR5.out HLD.out ?_
       intro vp HVP))
  have hz4 : w3.heap.size < w4.heap.size := by rw [HZ4.out]; omega
  have hz5 : w5.heap.size = w4.heap.size := HZ5.out
  have hb35 : Below w3.heap.size w3 w5 := HB4.out.trans (HS5.out.below (Nat.le_refl _) (by omega))
  have HB5 := Lib.hid (HB3.out.trans (hb35.mono HB3.out.size))
  have HA5 := Lib.hid (HA3.out.below hb35 (by omega))
  have HF5 := Lib.hid ((HF3.out.below hb35).more hb35.size)
  have HE5f := Lib.hid (HE.out.below h20 HB5.out)
  clear HA4 HB4 HZ4 HS5 HZ5 hb35 HA3 HB3 HF3
  have HVP2 : Hid (vp = f.v) := Lib.hid (by rw [HVP.out]; exact HVF2.out)
  with_reducible refine (check_frame f vp (.iface te pe) w5 HVP2 HE5f.out.ef HE5f.out.size HF5.out).mono ?_
  rintro e w6 ⟨rfl, HV6⟩
  have HB6 := Lib.hid (HB5.out.trans (HV6.out.mono HB5.out.size))
  have hz6 : w5.heap.size ≤ w6.heap.size := HV6.out.size
  have HA6 := Lib.hid (HA5.out.below HV6.out (by omega))
  have HR6 := Lib.hid (HR5.out.below HV6.out (by omega))
  have HF6 := Lib.hid ((HF5.out.below HV6.out).more HV6.out.size)
  clear HV6 HVP HVP2 HB5 HA5 HR5 HF5 HE5f
  have hvf : valid f = true := by rw [← valid_pl, HPL.out]; exact HVL.out
  rw [if_pos hvf]
  clear hvf
  go_wp2_with (first
    | (refine wl_load rfl 25 (.tmp 6) rfl w3.heap.size rfl 25 _ _ HR6.out under25.choose_spec rfl size25 ?_
       intro vq HVQ)
    | (refine wl_store rfl 25 (.tmp 2) (.tmp 46) rfl w.heap.size _ (f.cells n9) rfl HVQ.out rfl 25 _ HA6.out HLD.out rfl (cells_ok f n9) ?_
       intro w8 HR8 HS8 HZ8))
  refine bodyPost_ret (v := .tuple #[.agg (f.cells n9).toArray, .nilIface]) (results_cell_two Tryd.results21 _ w8 w.heap.size 25 (f.cells n9) _ _ rfl rfl HR8.out under25.choose_spec rfl HLD.out) rfl ?_
  have hz8 : w8.heap.size = w6.heap.size := HZ8.out
  refine ⟨f, .agg (f.cells n9).toArray, rfl, Lib.hid ⟨HVF2.out, HPL.out, ?_, HB6.out.trans (HS8.out.below (Nat.le_refl _) HB6.out.size), HNW.out⟩⟩
  refine { HF6.out with rd := ?_ }
  rw [hz8]
  exact rd_sole_row HF6.out HR6.out HA6.out HS8.out

/-- Bytes that are no encoding. -/
theorem get_none (n c : Nat) (A : Option Addr) (bs : List UInt8) (E : Nat → Value) (te : TypeId) (pe : Value) (w : World) (hE : Env w E te pe) (hE5 : F.Errs w E) (hn : bs.length = n) (hc : n ≤ c) (hcm : c ≤ 9223372036854775807) (hr : Rd w w.heap.size A (bs.map bv)) (hg : getB bs = none) :
    Calls Tryd.prog 21 #[.slice A n c] w fun e w' => e = .returned (.tuple #[.agg zeroC.toArray, .iface te pe]) ∧ Hid (Below w.heap.size w w') := by
  by_cases h : n < 7 ∨ 1024 < n
  · exact get_size n c A te pe w hE.ef hE.size (by omega) h
  · obtain ⟨p, rfl⟩ : ∃ p, n = p + 4 := ⟨n - 4, by omega⟩
    rcases hr with h0 | ⟨b, rfl, hb, hcc⟩
    · have : bs = [] := by simpa using h0
      subst this
      simp at hn
    · have hr' : Rd w w.heap.size (some b) (bs.map bv) := .inr ⟨b, rfl, hb, hcc⟩
      have ep : bs.length - 4 = p := by omega
      unfold getB at hg
      rw [ep] at hg
      by_cases hs : sealB (bs.take p) = bs
      · rw [if_pos ⟨by omega, by omega, hs⟩] at hg
        cases hop : openB (bs.take p) with
        | none => exact get_shut p c b bs E te pe w hE hE5 hn (by omega) (by omega) hc hcm hr' hs hop
        | some f0 =>
          rw [hop] at hg
          cases hv : valid f0 with
          | false => exact get_bad p c b bs E te pe w hE hE5 hn (by omega) (by omega) hc hcm hr' hs f0 hop hv
          | true =>
            unfold goodF at hg
            simp only [hv, if_true] at hg
            cases hg
      · exact get_seal p c b bs E te pe w hE hE5 hn (by omega) (by omega) hc hcm hr' hs
/-- Bytes that are an encoding. -/
theorem get_some (n c : Nat) (A : Option Addr) (bs : List UInt8) (E : Nat → Value) (te : TypeId) (pe : Value) (w : World) (hE : Env w E te pe) (hE5 : F.Errs w E) (hn : bs.length = n) (hc : n ≤ c) (hcm : c ≤ 9223372036854775807) (hr : Rd w w.heap.size A (bs.map bv)) (f0 : Fr) (hg : getB bs = some f0) :
    Calls Tryd.prog 21 #[.slice A n c] w fun e w' => ∃ (f : Fr) (v : Value), e = .returned (.tuple #[v, .nilIface]) ∧ Hid (v = f.v ∧ f.pl = f0 ∧ f.ok w' w'.heap.size ∧ Below w.heap.size w w' ∧ f.new w) := by
  have hh := getB_some hg
  obtain ⟨p, rfl⟩ : ∃ p, n = p + 4 := ⟨n - 4, by omega⟩
  rcases hr with h0 | ⟨b, rfl, hb, hcc⟩
  · have : bs = [] := by simpa using h0
    subst this
    simp at hn
  · have hr' : Rd w w.heap.size (some b) (bs.map bv) := .inr ⟨b, rfl, hb, hcc⟩
    have ep : bs.length - 4 = p := by omega
    unfold getB at hg
    rw [ep] at hg
    split at hg
    · rename_i hcond
      unfold goodF at hg
      split at hg
      · rename_i g hop
        split at hg
        · rename_i hv
          injection hg with hg
          subst hg
          exact get_good p c b bs E te pe w hE hE5 hn (by omega) (by omega) hc hcm hr' hcond.2.2 g hop hv
        · cases hg
      · cases hg
    · cases hg
end Go.Proofs.YtmhfhdbaeijcfaaDoor
