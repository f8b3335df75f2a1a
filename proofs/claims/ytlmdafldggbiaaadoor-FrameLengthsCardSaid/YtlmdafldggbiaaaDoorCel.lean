/- What frame.cellOf answers: a field's cell. -/
import Derived.Test.YtlmdafldggbiaaaDoorLay
namespace Go.Proofs.YtlmdafldggbiaaaDoor
open Go.RowKit
open Go.Proofs.YtlmdafldggbiaaaDoor.H

/-- A field's cell. -/
def cellF (f : Fr) (x : Nat) : F.FC :=
  if x = 5 then { s := f.who } else if x = 6 then { s := f.name } else if x = 7 then { f := f.weight } else if x = 8 then { s := ⟨f.bs.toArray⟩ } else { n := ext f x }
theorem info60 : (Tryd.prog.info? 60).map (fun i => (i.zero, i.size)) = some (some (.agg [Value.int .i64 0, Value.float .f64 0, Value.string ⟨#[]⟩].toArray), 3) := by kernel_rfl
def CellPost (f : Fr) (x : Nat) (w : World) (e : Ending) (w' : World) : Prop := e = .returned (cellF f x).v ∧ Hid (Below w.heap.size w w')

set_option maxRecDepth 100000 in
theorem cell_who (f : Fr) (v : Value) (n : Nat) (w : World) (HV : Hid (v = .agg (f.cells n).toArray)) : Calls Tryd.prog 26 #[v, .int .i64 5] w fun e w' => e = .returned (.agg #[.int .i64 0, .float .f64 0, .string f.who]) ∧ Hid (Below w.heap.size w w') := by
  have HLD : Hid ((Tryd.prog.info? 60).map (·.size) = some 3) := Lib.hid (by kernel_rfl)
  go_enter Tryd.func26, Tryd.ntmps26
  go_wp2_with (first
    | (refine wl_box rfl 25 (.tmp 0) rfl (f.cells n) HV.out ?_
       intro w1 HA1 HB1 HZ1
       have hz1 : w.heap.size < w1.heap.size := by rw [HZ1.out]; omega)
    | (refine wl_alloc rfl 60 rfl _ _ info60 ?_
       intro w2 HA2 HB2 HZ2
       have hz2 : w1.heap.size < w2.heap.size := by rw [HZ2.out]; omega
       have c6 : w2.cell? ⟨w.heap.size, 6, none⟩ = some (.string f.who) := (HA1.out.below HB2.out hz1).cell 6)
    | (refine wl_store rfl 60 (.tmp 4) (.tmp 10) rfl w1.heap.size _ [.int .i64 0, .float .f64 0, .string f.who] rfl rfl rfl 60 _ HA2.out HLD.out rfl (by simp [Value.oneCell']) ?_
       intro w4 HR4 HS4 HZ4))
  refine bodyPost_ret (v := .agg #[.int .i64 0, .float .f64 0, .string f.who]) (results_cell_row Tryd.results26 _ w4 w1.heap.size 60 _ (0, 0) _ rfl HR4.out Tryd.underlying60 rfl (by simpa using HLD.out)) rfl ?_
  have hb2 : Below w.heap.size w w2 := HB1.out.trans (HB2.out.mono (Nat.le_of_lt hz1))
  exact ⟨rfl, Lib.hid (hb2.trans (HS4.out.below (Nat.le_of_lt hz1) hb2.size))⟩

set_option maxRecDepth 100000 in
theorem cell_name (f : Fr) (v : Value) (n : Nat) (w : World) (HV : Hid (v = .agg (f.cells n).toArray)) : Calls Tryd.prog 26 #[v, .int .i64 6] w fun e w' => e = .returned (.agg #[.int .i64 0, .float .f64 0, .string f.name]) ∧ Hid (Below w.heap.size w w') := by
  have HLD : Hid ((Tryd.prog.info? 60).map (·.size) = some 3) := Lib.hid (by kernel_rfl)
  go_enter Tryd.func26, Tryd.ntmps26
  go_wp2_with (first
    | (refine wl_box rfl 25 (.tmp 0) rfl (f.cells n) HV.out ?_
       intro w1 HA1 HB1 HZ1
       have hz1 : w.heap.size < w1.heap.size := by rw [HZ1.out]; omega)
    | (refine wl_alloc rfl 60 rfl _ _ info60 ?_
       intro w2 HA2 HB2 HZ2
       have hz2 : w1.heap.size < w2.heap.size := by rw [HZ2.out]; omega
       have c7 : w2.cell? ⟨w.heap.size, 7, none⟩ = some (.string f.name) := (HA1.out.below HB2.out hz1).cell 7)
    | (refine wl_store rfl 60 (.tmp 4) (.tmp 15) rfl w1.heap.size _ [.int .i64 0, .float .f64 0, .string f.name] rfl rfl rfl 60 _ HA2.out HLD.out rfl (by simp [Value.oneCell']) ?_
       intro w4 HR4 HS4 HZ4))
  refine bodyPost_ret (v := .agg #[.int .i64 0, .float .f64 0, .string f.name]) (results_cell_row Tryd.results26 _ w4 w1.heap.size 60 _ (0, 0) _ rfl HR4.out Tryd.underlying60 rfl (by simpa using HLD.out)) rfl ?_
  have hb2 : Below w.heap.size w w2 := HB1.out.trans (HB2.out.mono (Nat.le_of_lt hz1))
  exact ⟨rfl, Lib.hid (hb2.trans (HS4.out.below (Nat.le_of_lt hz1) hb2.size))⟩

set_option maxRecDepth 100000 in
theorem cell_weight (f : Fr) (v : Value) (n : Nat) (w : World) (HV : Hid (v = .agg (f.cells n).toArray)) : Calls Tryd.prog 26 #[v, .int .i64 7] w fun e w' => e = .returned (.agg #[.int .i64 0, .float .f64 f.weight, .string ⟨#[]⟩]) ∧ Hid (Below w.heap.size w w') := by
  have HLD : Hid ((Tryd.prog.info? 60).map (·.size) = some 3) := Lib.hid (by kernel_rfl)
  go_enter Tryd.func26, Tryd.ntmps26
  go_wp2_with (first
    | (refine wl_box rfl 25 (.tmp 0) rfl (f.cells n) HV.out ?_
       intro w1 HA1 HB1 HZ1
       have hz1 : w.heap.size < w1.heap.size := by rw [HZ1.out]; omega)
    | (refine wl_alloc rfl 60 rfl _ _ info60 ?_
       intro w2 HA2 HB2 HZ2
       have hz2 : w1.heap.size < w2.heap.size := by rw [HZ2.out]; omega
       have c8 : w2.cell? ⟨w.heap.size, 8, none⟩ = some (.float .f64 f.weight) := (HA1.out.below HB2.out hz1).cell 8)
    | (refine wl_store rfl 60 (.tmp 4) (.tmp 20) rfl w1.heap.size _ [.int .i64 0, .float .f64 f.weight, .string ⟨#[]⟩] rfl rfl rfl 60 _ HA2.out HLD.out rfl (by simp [Value.oneCell']) ?_
       intro w4 HR4 HS4 HZ4))
  refine bodyPost_ret (v := .agg #[.int .i64 0, .float .f64 f.weight, .string ⟨#[]⟩]) (results_cell_row Tryd.results26 _ w4 w1.heap.size 60 _ (0, 0) _ rfl HR4.out Tryd.underlying60 rfl (by simpa using HLD.out)) rfl ?_
  have hb2 : Below w.heap.size w w2 := HB1.out.trans (HB2.out.mono (Nat.le_of_lt hz1))
  exact ⟨rfl, Lib.hid (hb2.trans (HS4.out.below (Nat.le_of_lt hz1) hb2.size))⟩

set_option maxRecDepth 100000 in
theorem cell_bytes (f : Fr) (v : Value) (n : Nat) (w : World) (HV : Hid (v = .agg (f.cells n).toArray)) (HN : Hid (f.bs.length = n)) (HR : Hid (Rd w w.heap.size f.ba (f.bs.map bv))) : Calls Tryd.prog 26 #[v, .int .i64 8] w fun e w' => e = .returned (.agg #[.int .i64 0, .float .f64 0, .string ⟨f.bs.toArray⟩]) ∧ Hid (Below w.heap.size w w') := by
  have HLD : Hid ((Tryd.prog.info? 60).map (·.size) = some 3) := Lib.hid (by kernel_rfl)
  go_enter Tryd.func26, Tryd.ntmps26
  go_wp2_with (first
    | (refine wl_box rfl 25 (.tmp 0) rfl (f.cells n) HV.out ?_
       intro w1 HA1 HB1 HZ1
       have hz1 : w.heap.size < w1.heap.size := by rw [HZ1.out]; omega)
    | (refine wl_alloc rfl 60 rfl _ _ info60 ?_
       intro w2 HA2 HB2 HZ2
       have hz2 : w1.heap.size < w2.heap.size := by rw [HZ2.out]; omega
       have c9 : w2.cell? ⟨w.heap.size, 9, none⟩ = some (.slice f.ba n f.bc) := (HA1.out.below HB2.out hz1).cell 9
       have hst := Rd.toStr (bs := f.bs) ((HR.out.below HB1.out).below (HB2.out.mono (Nat.le_of_lt hz1))) n f.bc HN.out)
    | (refine wl_store rfl 60 (.tmp 4) (.tmp 26) rfl w1.heap.size _ [.int .i64 0, .float .f64 0, .string ⟨f.bs.toArray⟩] rfl rfl rfl 60 _ HA2.out HLD.out rfl (by simp [Value.oneCell']) ?_
       intro w4 HR4 HS4 HZ4))
  refine bodyPost_ret (v := .agg #[.int .i64 0, .float .f64 0, .string ⟨f.bs.toArray⟩]) (results_cell_row Tryd.results26 _ w4 w1.heap.size 60 _ (0, 0) _ rfl HR4.out Tryd.underlying60 rfl (by simpa using HLD.out)) rfl ?_
  have hb2 : Below w.heap.size w w2 := HB1.out.trans (HB2.out.mono (Nat.le_of_lt hz1))
  exact ⟨rfl, Lib.hid (hb2.trans (HS4.out.below (Nat.le_of_lt hz1) hb2.size))⟩

set_option maxRecDepth 100000 in
set_option maxHeartbeats 1000000 in
theorem cell_number (f : Fr) (v : Value) (x : Nat) (w : World) (hv : Hid (v = f.v)) (hf : f.ok w w.heap.size) (hx : x < 5) : Calls Tryd.prog 26 #[v, .int .i64 (x : Int)] w fun e w' => e = .returned (.agg #[.int .i64 (ext f x), .float .f64 0, .string ⟨#[]⟩]) ∧ Hid (Below w.heap.size w w') := by
  have HF := Lib.hid hf
  clear hf
  have b5 : ((x : Int) == 5) = false := by simp; omega
  have b6 : ((x : Int) == 6) = false := by simp; omega
  have b7 : ((x : Int) == 7) = false := by simp; omega
  have b8 : ((x : Int) == 8) = false := by simp; omega
  obtain ⟨n, HN⟩ : ∃ n, Hid (f.bs.length = n) := ⟨_, rfl⟩
  have HV : Hid (v = .agg (f.cells n).toArray) := Lib.hid (by rw [hv.out, ← HN.out]; rfl)
  go_enter Tryd.func26, Tryd.ntmps26
  go_wp2_with (first
    | (refine wl_box rfl 25 (.tmp 0) rfl (f.cells n) HV.out ?_
       intro w1 HA1 HB1 HZ1
       have hz1 : w.heap.size < w1.heap.size := by rw [HZ1.out]; omega)
    | (refine wl_load rfl 25 (.tmp 2) rfl w.heap.size rfl 25 _ _ (HA1.out.alloc _) under25.choose_spec rfl size25 ?_
       intro vp HVP))
  have HVP2 : Hid (vp = f.v) := Lib.hid (by rw [HVP.out]; unfold Fr.v; rw [HN.out])
  obtain ⟨w2, HW2⟩ : ∃ w2, H.Shut (w2 = w1.alloc (.cells #[.int .i64 0, .float .f64 0, .string ⟨#[]⟩] 60)) := ⟨_, ⟨rfl⟩⟩
  have hb12 : Below w1.heap.size w1 w2 := by rw [HW2.out]; exact below_alloc _ _
  have hb2 : Below w.heap.size w w2 := HB1.out.trans (hb12.mono (Nat.le_of_lt hz1))
  have HR2 : Hid (Row w2 w1.heap.size 60 [.int .i64 0, .float .f64 0, .string ⟨#[]⟩]) := Lib.hid (by rw [HW2.out]; exact Row.new w1 _ 60)
  rw [← HW2.out]
  have HFO := Lib.hid ((HF.out.below hb2).more hb2.size)
  have hg : w1.heap.size < w2.heap.size := HR2.out.lt
  with_reducible refine (extent_any f vp x w2 HVP2 (by omega) HFO.out).mono ?_
  rintro e w3 ⟨rfl, HV3⟩
  have HB3 := Lib.hid (hb2.trans (HV3.out.mono hb2.size))
  have HR3 := Lib.hid (HR2.out.below HV3.out hg)
  have k0 : w3.cell? ⟨w1.heap.size, 0, none⟩ = some (.int .i64 0) := HR3.out.cell 0
  have k1 : w3.cell? ⟨w1.heap.size, 1, none⟩ = some (.float .f64 0) := HR3.out.cell 1
  have k2 : w3.cell? ⟨w1.heap.size, 2, none⟩ = some (.string ⟨#[]⟩) := HR3.out.cell 2
  obtain ⟨E, HEE⟩ : ∃ E, H.Shut (ext f x = E) := ⟨_, ⟨rfl⟩⟩
  rw [HEE.out]
  have HLD : Hid ((Tryd.prog.info? 60).map (·.size) = some 3) := Lib.hid (by kernel_rfl)
  go_wp2_with (first
    | (refine wl_store rfl 60 (.tmp 4) (.tmp 30) rfl w1.heap.size _ [.int .i64 E, .float .f64 0, .string ⟨#[]⟩] rfl rfl rfl 60 _ HR3.out HLD.out rfl (by simp [Value.oneCell']) ?_
       intro w4 HR4 HS4 HZ4))
  refine bodyPost_ret (v := .agg #[.int .i64 E, .float .f64 0, .string ⟨#[]⟩]) (results_cell_row Tryd.results26 _ w4 w1.heap.size 60 _ (0, 0) _ rfl HR4.out Tryd.underlying60 rfl (by simpa using HLD.out)) rfl ?_
  exact ⟨by rw [HEE.out], Lib.hid (HB3.out.trans (HS4.out.below (Nat.le_of_lt hz1) HB3.out.size))⟩

theorem cellOf_any (f : Fr) (v : Value) (x : Nat) (w : World) (hv : Hid (v = f.v)) (hf : f.ok w w.heap.size) (hx : x < 9) : Calls Tryd.prog 26 #[v, .int .i64 (x : Int)] w (CellPost f x w) := by
  have HV : Hid (v = .agg (f.cells f.bs.length).toArray) := hv
  by_cases h : x < 5
  · refine (cell_number f v x w hv hf h).mono fun e w' ⟨he, hb⟩ => ⟨?_, hb⟩
    rw [he]
    unfold cellF
    rw [if_neg (by omega), if_neg (by omega), if_neg (by omega), if_neg (by omega)]
    rfl
  · have h4 : x = 5 ∨ x = 6 ∨ x = 7 ∨ x = 8 := by omega
    rcases h4 with rfl | rfl | rfl | rfl
    · exact (cell_who f v _ w HV).mono fun e w' ⟨he, hb⟩ => ⟨by rw [he]; rfl, hb⟩
    · exact (cell_name f v _ w HV).mono fun e w' ⟨he, hb⟩ => ⟨by rw [he]; rfl, hb⟩
    · exact (cell_weight f v _ w HV).mono fun e w' ⟨he, hb⟩ => ⟨by rw [he]; rfl, hb⟩
    · exact (cell_bytes f v _ w HV (Lib.hid rfl) (Lib.hid hf.rd)).mono fun e w' ⟨he, hb⟩ => ⟨by rw [he]; rfl, hb⟩
end Go.Proofs.YtlmdafldggbiaaaDoor
