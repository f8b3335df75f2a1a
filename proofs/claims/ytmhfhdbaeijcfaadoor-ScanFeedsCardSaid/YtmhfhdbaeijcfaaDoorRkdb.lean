/- The document's Kind of the kinds 10, 11, 12, 13, 14, 15, 16, 17. -/
import Derived.Test.YtmhfhdbaeijcfaaDoorRkr
namespace Go.Proofs.YtmhfhdbaeijcfaaDoor
open Go.RowKit
open Go.Proofs.YtmhfhdbaeijcfaaDoor.H
attribute [local go_sem] F.run_store_f64
set_option maxRecDepth 100000 in
set_option maxHeartbeats 4000000 in
theorem rkind_10 (A : Option Addr) (CC : Nat) (c0 c1 c2 : F.FC) (w : World) (hc : F.CsR w w.heap.size A [c0, c1, c2]) (hx : ∀ x ∈ [c0, c1, c2], F.FC.ok x) : Calls Tryd.prog 52 #[.int .i64 10, .slice A 3 CC] w (RKy 10 [c0, c1, c2] w) := by
  obtain ⟨b, o, rfl, hb, hcl⟩ := csr_at hc (by simp)
  have HCL0 : Hid (w.cell? ⟨b, o, none⟩ = some (.int .i64 c0.n)) := Lib.hid (by have := hcl 0 c0 rfl; simpa using this.1)
  have HCL1 : Hid (w.cell? ⟨b, o + 3, none⟩ = some (.int .i64 c1.n)) := Lib.hid (by have := hcl 1 c1 rfl; simpa using this.1)
  have HCL2 : Hid (w.cell? ⟨b, o + 6, none⟩ = some (.int .i64 c2.n)) := Lib.hid (by have := hcl 2 c2 rfl; simpa using this.1)
  have HX : Hid (∀ x ∈ [c0, c1, c2], F.FC.ok x) := Lib.hid hx
  clear hc hcl hx
  have HLZ : Hid ((Tryd.prog.info? 25).map (·.size) = some zeroC.length) := Lib.hid size25
  go_enter Tryd.func52, Tryd.ntmps52
  go_wp2_with (first
    | (refine H.wl_allocAt rfl 25 rfl 4 rfl _ _ info25' ?_
       intro w1 HA1 HB1 HZ1
       have hz1 : w.heap.size < w1.heap.size := by rw [HZ1.out]; omega)
    | (refine H.wl_allocAt rfl 25 rfl 5 rfl _ _ info25' ?_
       intro w2 HA2 HB2 HZ2
       have hz2 : w1.heap.size < w2.heap.size := by rw [HZ2.out]; omega)
    | (refine wl_store rfl 25 (.tmp 5) (.tmp 7) rfl w1.heap.size _ (kindC 10) rfl rfl rfl 25 _ HA2.out HLZ.out rfl (kindC_one _) ?_
       intro w3 HR3 HS3 HZ3
       have hb13 : Below w1.heap.size w1 w3 := HB2.out.trans (HS3.out.below (Nat.le_refl _) (by omega))
       have hb03 : Below w.heap.size w w3 := HB1.out.trans (hb13.mono (Nat.le_of_lt hz1))
       have HA3 := Lib.hid (HA1.out.below hb13 hz1)
       have HB03 := Lib.hid hb03
       have hg3 : w1.heap.size < w3.heap.size := by have := HZ3.out; omega
       have hbg : b < w1.heap.size := by omega
       clear hb13 hb03
       have d0 : w3.cell? ⟨b, o, none⟩ = some (.int .i64 c0.n) := (HB03.out.cell (p := ⟨b, o, none⟩) hb).trans HCL0.out
       have d1 : w3.cell? ⟨b, o + 3, none⟩ = some (.int .i64 c1.n) := (HB03.out.cell (p := ⟨b, o + 3, none⟩) hb).trans HCL1.out
       have d2 : w3.cell? ⟨b, o + 6, none⟩ = some (.int .i64 c2.n) := (HB03.out.cell (p := ⟨b, o + 6, none⟩) hb).trans HCL2.out
       have r1 : w3.cell? ⟨w1.heap.size, 1, none⟩ = some (.int .i64 0) := HR3.out.cell 1
       have z1 : w3.frozen? ⟨w1.heap.size, 1, none⟩ = false := HR3.out.frozen 1
       have r3 : w3.cell? ⟨w1.heap.size, 3, none⟩ = some (.int .i64 0) := HR3.out.cell 3
       have z3 : w3.frozen? ⟨w1.heap.size, 3, none⟩ = false := HR3.out.frozen 3
       have r4 : w3.cell? ⟨w1.heap.size, 4, none⟩ = some (.int .i64 0) := HR3.out.cell 4
       have z4 : w3.frozen? ⟨w1.heap.size, 4, none⟩ = false := HR3.out.frozen 4))
  have HLD : Hid (Below w1.heap.size w3 w3) := Lib.hid (Below.refl _ _)
  clear HLD
  go_region
  obtain ⟨w4, HW4⟩ : ∃ w4, H.Shut (w4 = ((w3.setCell ⟨w1.heap.size, 1, none⟩ (.int .i64 c0.n)).setCell ⟨w1.heap.size, 3, none⟩ (.int .i64 c1.n)).drew) := ⟨_, ⟨rfl⟩⟩
  rw [← HW4.out]
  have HR4 : Hid (Row w4 w1.heap.size 25 (((kindC 10).set 1 (.int .i64 c0.n)).set 3 (.int .i64 c1.n))) := Lib.hid (by rw [HW4.out]; exact row_drew (((HR3.out).set 1 _).set 3 _))
  have HS4 : Hid (Sole w1.heap.size w3 w4) := Lib.hid (by rw [HW4.out]; exact ((((Sole.refl w1.heap.size w3)).setCell 1 _).setCell 3 _).drewN 1)
  have HB04 : Hid (Below w.heap.size w w4) := Lib.hid (HB03.out.trans (HS4.out.below (Nat.le_of_lt hz1) (by have := HB03.out.size; omega)))
  have HA4 : Hid (Row w4 w.heap.size 25 zeroC) := Lib.hid (HS4.out.row HA3.out (by omega))
  have e0 : w4.cell? ⟨b, o, none⟩ = some (.int .i64 c0.n) := (HS4.out.cell (p := ⟨b, o, none⟩) (by show b < _; omega) (by show b ≠ _; omega)).trans d0
  have e1 : w4.cell? ⟨b, o + 3, none⟩ = some (.int .i64 c1.n) := (HS4.out.cell (p := ⟨b, o + 3, none⟩) (by show b < _; omega) (by show b ≠ _; omega)).trans d1
  have e2 : w4.cell? ⟨b, o + 6, none⟩ = some (.int .i64 c2.n) := (HS4.out.cell (p := ⟨b, o + 6, none⟩) (by show b < _; omega) (by show b ≠ _; omega)).trans d2
  have s4 : w4.cell? ⟨w1.heap.size, 4, none⟩ = some (.int .i64 0) := HR4.out.cell 4
  have y4 : w4.frozen? ⟨w1.heap.size, 4, none⟩ = false := HR4.out.frozen 4
  have HR5 : Hid (Row (w4.setCell ⟨w1.heap.size, 4, none⟩ (.int .i64 c2.n)) w1.heap.size 25 ((((kindC 10).set 1 (.int .i64 c0.n)).set 3 (.int .i64 c1.n)).set 4 (.int .i64 c2.n))) := Lib.hid (HR4.out.set 4 _)
  have HS5 : Hid (Sole w1.heap.size w4 (w4.setCell ⟨w1.heap.size, 4, none⟩ (.int .i64 c2.n))) := Lib.hid ((Sole.refl _ _).setCell 4 _)
  have HB5 : Hid (Below w.heap.size w (w4.setCell ⟨w1.heap.size, 4, none⟩ (.int .i64 c2.n))) := Lib.hid (HB04.out.trans (HS5.out.below (Nat.le_of_lt hz1) (by have := HB04.out.size; omega)))
  have HA5 : Hid (Row (w4.setCell ⟨w1.heap.size, 4, none⟩ (.int .i64 c2.n)) w.heap.size 25 zeroC) := Lib.hid (HS5.out.row HA4.out (by omega))
  obtain ⟨G, HG⟩ : ∃ G : Fr, H.Shut (G = { zf 10 with seq := c0.n, stream := c1.n, amount := c2.n }) := ⟨_, ⟨rfl⟩⟩
  have HRF : Hid (Row (w4.setCell ⟨w1.heap.size, 4, none⟩ (.int .i64 c2.n)) w1.heap.size 25 (G.cells G.bs.length)) := Lib.hid (by rw [HG.out]; exact HR5.out)
  have HLA : Hid ((Tryd.prog.info? 25).map (·.size) = some (G.cells G.bs.length).length) := Lib.hid size25
  have HGR : Hid (Rd (w4.setCell ⟨w1.heap.size, 4, none⟩ (.int .i64 c2.n)) (w4.setCell ⟨w1.heap.size, 4, none⟩ (.int .i64 c2.n)).heap.size G.ba (G.bs.map bv)) := Lib.hid (by rw [HG.out]; exact .inl rfl)
  go_wp2_with (first
    | (refine wl_load rfl 25 (.tmp 5) rfl w1.heap.size rfl 25 _ _ HRF.out under25.choose_spec rfl size25 ?_
       intro vq HVQ)
    | (refine wl_store rfl 25 (.tmp 4) (.tmp 168) rfl w.heap.size _ (G.cells G.bs.length) rfl HVQ.out rfl 25 _ HA5.out HLA.out rfl (cells_ok G _) ?_
       intro w8 HR8 HS8 HZ8))
  refine bodyPost_ret (v := G.v) (results_cell_row Tryd.results52 _ w8 w.heap.size 25 _ (0, 0) _ rfl HR8.out under25.choose_spec rfl HLA.out) rfl ?_
  refine ⟨G, rfl, Lib.hid ⟨?_, ?_, HB5.out.trans (HS8.out.below (Nat.le_refl _) HB5.out.size), by rw [HG.out]; exact .inl rfl⟩⟩
  · rw [HG.out, used_10]; rfl
  · have hrd : Rd w8 w8.heap.size G.ba (G.bs.map bv) := rd_sole_any HGR.out HS8.out (by rw [HG.out]; intro ad e; cases e)
    rw [HG.out] at hrd ⊢
    have x0 := HX.out c0 (by simp)
    have x1 := HX.out c1 (by simp)
    have x2 := HX.out c2 (by simp)
    exact { kind := (show i64ok 10 from ⟨by decide, by decide⟩), seq := ⟨x0.1, x0.2.1⟩, got := (show i64ok 0 from ⟨by decide, by decide⟩), stream := ⟨x1.1, x1.2.1⟩, amount := ⟨x2.1, x2.2.1⟩, code := (show i64ok 0 from ⟨by decide, by decide⟩), who := Nat.zero_le _, name := Nat.zero_le _, weight := (show 0 < 18446744073709551616 from by decide), cap := Nat.le_refl _, max := (show 0 ≤ 9223372036854775807 from by decide), rd := hrd }
set_option maxRecDepth 100000 in
set_option maxHeartbeats 4000000 in
theorem rkind_11 (A : Option Addr) (CC : Nat) (c0 c1 : F.FC) (w : World) (hc : F.CsR w w.heap.size A [c0, c1]) (hx : ∀ x ∈ [c0, c1], F.FC.ok x) : Calls Tryd.prog 52 #[.int .i64 11, .slice A 2 CC] w (RKy 11 [c0, c1] w) := by
  obtain ⟨b, o, rfl, hb, hcl⟩ := csr_at hc (by simp)
  have HCL0 : Hid (w.cell? ⟨b, o, none⟩ = some (.int .i64 c0.n)) := Lib.hid (by have := hcl 0 c0 rfl; simpa using this.1)
  have HCL1 : Hid (w.cell? ⟨b, o + 3, none⟩ = some (.int .i64 c1.n)) := Lib.hid (by have := hcl 1 c1 rfl; simpa using this.1)
  have HX : Hid (∀ x ∈ [c0, c1], F.FC.ok x) := Lib.hid hx
  clear hc hcl hx
  have HLZ : Hid ((Tryd.prog.info? 25).map (·.size) = some zeroC.length) := Lib.hid size25
  go_enter Tryd.func52, Tryd.ntmps52
  go_wp2_with (first
    | (refine H.wl_allocAt rfl 25 rfl 4 rfl _ _ info25' ?_
       intro w1 HA1 HB1 HZ1
       have hz1 : w.heap.size < w1.heap.size := by rw [HZ1.out]; omega)
    | (refine H.wl_allocAt rfl 25 rfl 5 rfl _ _ info25' ?_
       intro w2 HA2 HB2 HZ2
       have hz2 : w1.heap.size < w2.heap.size := by rw [HZ2.out]; omega)
    | (refine wl_store rfl 25 (.tmp 5) (.tmp 7) rfl w1.heap.size _ (kindC 11) rfl rfl rfl 25 _ HA2.out HLZ.out rfl (kindC_one _) ?_
       intro w3 HR3 HS3 HZ3
       have hb13 : Below w1.heap.size w1 w3 := HB2.out.trans (HS3.out.below (Nat.le_refl _) (by omega))
       have hb03 : Below w.heap.size w w3 := HB1.out.trans (hb13.mono (Nat.le_of_lt hz1))
       have HA3 := Lib.hid (HA1.out.below hb13 hz1)
       have HB03 := Lib.hid hb03
       have hg3 : w1.heap.size < w3.heap.size := by have := HZ3.out; omega
       have hbg : b < w1.heap.size := by omega
       clear hb13 hb03
       have d0 : w3.cell? ⟨b, o, none⟩ = some (.int .i64 c0.n) := (HB03.out.cell (p := ⟨b, o, none⟩) hb).trans HCL0.out
       have d1 : w3.cell? ⟨b, o + 3, none⟩ = some (.int .i64 c1.n) := (HB03.out.cell (p := ⟨b, o + 3, none⟩) hb).trans HCL1.out
       have r1 : w3.cell? ⟨w1.heap.size, 1, none⟩ = some (.int .i64 0) := HR3.out.cell 1
       have z1 : w3.frozen? ⟨w1.heap.size, 1, none⟩ = false := HR3.out.frozen 1
       have r3 : w3.cell? ⟨w1.heap.size, 3, none⟩ = some (.int .i64 0) := HR3.out.cell 3
       have z3 : w3.frozen? ⟨w1.heap.size, 3, none⟩ = false := HR3.out.frozen 3))
  have HLD : Hid (Below w1.heap.size w3 w3) := Lib.hid (Below.refl _ _)
  clear HLD
  go_region
  obtain ⟨w4, HW4⟩ : ∃ w4, H.Shut (w4 = ((w3.setCell ⟨w1.heap.size, 1, none⟩ (.int .i64 c0.n)).setCell ⟨w1.heap.size, 3, none⟩ (.int .i64 c1.n)).drew) := ⟨_, ⟨rfl⟩⟩
  rw [← HW4.out]
  have HR4 : Hid (Row w4 w1.heap.size 25 (((kindC 11).set 1 (.int .i64 c0.n)).set 3 (.int .i64 c1.n))) := Lib.hid (by rw [HW4.out]; exact row_drew (((HR3.out).set 1 _).set 3 _))
  have HS4 : Hid (Sole w1.heap.size w3 w4) := Lib.hid (by rw [HW4.out]; exact ((((Sole.refl w1.heap.size w3)).setCell 1 _).setCell 3 _).drewN 1)
  have HB04 : Hid (Below w.heap.size w w4) := Lib.hid (HB03.out.trans (HS4.out.below (Nat.le_of_lt hz1) (by have := HB03.out.size; omega)))
  have HA4 : Hid (Row w4 w.heap.size 25 zeroC) := Lib.hid (HS4.out.row HA3.out (by omega))
  have e0 : w4.cell? ⟨b, o, none⟩ = some (.int .i64 c0.n) := (HS4.out.cell (p := ⟨b, o, none⟩) (by show b < _; omega) (by show b ≠ _; omega)).trans d0
  have e1 : w4.cell? ⟨b, o + 3, none⟩ = some (.int .i64 c1.n) := (HS4.out.cell (p := ⟨b, o + 3, none⟩) (by show b < _; omega) (by show b ≠ _; omega)).trans d1
  obtain ⟨G, HG⟩ : ∃ G : Fr, H.Shut (G = { zf 11 with seq := c0.n, stream := c1.n }) := ⟨_, ⟨rfl⟩⟩
  have HRF : Hid (Row w4 w1.heap.size 25 (G.cells G.bs.length)) := Lib.hid (by rw [HG.out]; exact HR4.out)
  have HLA : Hid ((Tryd.prog.info? 25).map (·.size) = some (G.cells G.bs.length).length) := Lib.hid size25
  have HGR : Hid (Rd w4 w4.heap.size G.ba (G.bs.map bv)) := Lib.hid (by rw [HG.out]; exact .inl rfl)
  go_wp2_with (first
    | (refine wl_load rfl 25 (.tmp 5) rfl w1.heap.size rfl 25 _ _ HRF.out under25.choose_spec rfl size25 ?_
       intro vq HVQ)
    | (refine wl_store rfl 25 (.tmp 4) (.tmp 168) rfl w.heap.size _ (G.cells G.bs.length) rfl HVQ.out rfl 25 _ HA4.out HLA.out rfl (cells_ok G _) ?_
       intro w8 HR8 HS8 HZ8))
  refine bodyPost_ret (v := G.v) (results_cell_row Tryd.results52 _ w8 w.heap.size 25 _ (0, 0) _ rfl HR8.out under25.choose_spec rfl HLA.out) rfl ?_
  refine ⟨G, rfl, Lib.hid ⟨?_, ?_, HB04.out.trans (HS8.out.below (Nat.le_refl _) HB04.out.size), by rw [HG.out]; exact .inl rfl⟩⟩
  · rw [HG.out, used_11]; rfl
  · have hrd : Rd w8 w8.heap.size G.ba (G.bs.map bv) := rd_sole_any HGR.out HS8.out (by rw [HG.out]; intro ad e; cases e)
    rw [HG.out] at hrd ⊢
    have x0 := HX.out c0 (by simp)
    have x1 := HX.out c1 (by simp)
    exact { kind := (show i64ok 11 from ⟨by decide, by decide⟩), seq := ⟨x0.1, x0.2.1⟩, got := (show i64ok 0 from ⟨by decide, by decide⟩), stream := ⟨x1.1, x1.2.1⟩, amount := (show i64ok 0 from ⟨by decide, by decide⟩), code := (show i64ok 0 from ⟨by decide, by decide⟩), who := Nat.zero_le _, name := Nat.zero_le _, weight := (show 0 < 18446744073709551616 from by decide), cap := Nat.le_refl _, max := (show 0 ≤ 9223372036854775807 from by decide), rd := hrd }
set_option maxRecDepth 100000 in
set_option maxHeartbeats 4000000 in
theorem rkind_12 (A : Option Addr) (CC : Nat) (c0 c1 c2 : F.FC) (w : World) (hc : F.CsR w w.heap.size A [c0, c1, c2]) (hx : ∀ x ∈ [c0, c1, c2], F.FC.ok x) : Calls Tryd.prog 52 #[.int .i64 12, .slice A 3 CC] w (RKy 12 [c0, c1, c2] w) := by
  obtain ⟨b, o, rfl, hb, hcl⟩ := csr_at hc (by simp)
  have HCL0 : Hid (w.cell? ⟨b, o, none⟩ = some (.int .i64 c0.n)) := Lib.hid (by have := hcl 0 c0 rfl; simpa using this.1)
  have HCL1 : Hid (w.cell? ⟨b, o + 3, none⟩ = some (.int .i64 c1.n)) := Lib.hid (by have := hcl 1 c1 rfl; simpa using this.1)
  have HCL2 : Hid (w.cell? ⟨b, o + 6, none⟩ = some (.int .i64 c2.n)) := Lib.hid (by have := hcl 2 c2 rfl; simpa using this.1)
  have HX : Hid (∀ x ∈ [c0, c1, c2], F.FC.ok x) := Lib.hid hx
  clear hc hcl hx
  have HLZ : Hid ((Tryd.prog.info? 25).map (·.size) = some zeroC.length) := Lib.hid size25
  go_enter Tryd.func52, Tryd.ntmps52
  go_wp2_with (first
    | (refine H.wl_allocAt rfl 25 rfl 4 rfl _ _ info25' ?_
       intro w1 HA1 HB1 HZ1
       have hz1 : w.heap.size < w1.heap.size := by rw [HZ1.out]; omega)
    | (refine H.wl_allocAt rfl 25 rfl 5 rfl _ _ info25' ?_
       intro w2 HA2 HB2 HZ2
       have hz2 : w1.heap.size < w2.heap.size := by rw [HZ2.out]; omega)
    | (refine wl_store rfl 25 (.tmp 5) (.tmp 7) rfl w1.heap.size _ (kindC 12) rfl rfl rfl 25 _ HA2.out HLZ.out rfl (kindC_one _) ?_
       intro w3 HR3 HS3 HZ3
       have hb13 : Below w1.heap.size w1 w3 := HB2.out.trans (HS3.out.below (Nat.le_refl _) (by omega))
       have hb03 : Below w.heap.size w w3 := HB1.out.trans (hb13.mono (Nat.le_of_lt hz1))
       have HA3 := Lib.hid (HA1.out.below hb13 hz1)
       have HB03 := Lib.hid hb03
       have hg3 : w1.heap.size < w3.heap.size := by have := HZ3.out; omega
       have hbg : b < w1.heap.size := by omega
       clear hb13 hb03
       have d0 : w3.cell? ⟨b, o, none⟩ = some (.int .i64 c0.n) := (HB03.out.cell (p := ⟨b, o, none⟩) hb).trans HCL0.out
       have d1 : w3.cell? ⟨b, o + 3, none⟩ = some (.int .i64 c1.n) := (HB03.out.cell (p := ⟨b, o + 3, none⟩) hb).trans HCL1.out
       have d2 : w3.cell? ⟨b, o + 6, none⟩ = some (.int .i64 c2.n) := (HB03.out.cell (p := ⟨b, o + 6, none⟩) hb).trans HCL2.out
       have r1 : w3.cell? ⟨w1.heap.size, 1, none⟩ = some (.int .i64 0) := HR3.out.cell 1
       have z1 : w3.frozen? ⟨w1.heap.size, 1, none⟩ = false := HR3.out.frozen 1
       have r3 : w3.cell? ⟨w1.heap.size, 3, none⟩ = some (.int .i64 0) := HR3.out.cell 3
       have z3 : w3.frozen? ⟨w1.heap.size, 3, none⟩ = false := HR3.out.frozen 3
       have r5 : w3.cell? ⟨w1.heap.size, 5, none⟩ = some (.int .i64 0) := HR3.out.cell 5
       have z5 : w3.frozen? ⟨w1.heap.size, 5, none⟩ = false := HR3.out.frozen 5))
  have HLD : Hid (Below w1.heap.size w3 w3) := Lib.hid (Below.refl _ _)
  clear HLD
  go_region
  obtain ⟨w4, HW4⟩ : ∃ w4, H.Shut (w4 = ((w3.setCell ⟨w1.heap.size, 1, none⟩ (.int .i64 c0.n)).setCell ⟨w1.heap.size, 3, none⟩ (.int .i64 c1.n)).drew) := ⟨_, ⟨rfl⟩⟩
  rw [← HW4.out]
  have HR4 : Hid (Row w4 w1.heap.size 25 (((kindC 12).set 1 (.int .i64 c0.n)).set 3 (.int .i64 c1.n))) := Lib.hid (by rw [HW4.out]; exact row_drew (((HR3.out).set 1 _).set 3 _))
  have HS4 : Hid (Sole w1.heap.size w3 w4) := Lib.hid (by rw [HW4.out]; exact ((((Sole.refl w1.heap.size w3)).setCell 1 _).setCell 3 _).drewN 1)
  have HB04 : Hid (Below w.heap.size w w4) := Lib.hid (HB03.out.trans (HS4.out.below (Nat.le_of_lt hz1) (by have := HB03.out.size; omega)))
  have HA4 : Hid (Row w4 w.heap.size 25 zeroC) := Lib.hid (HS4.out.row HA3.out (by omega))
  have e0 : w4.cell? ⟨b, o, none⟩ = some (.int .i64 c0.n) := (HS4.out.cell (p := ⟨b, o, none⟩) (by show b < _; omega) (by show b ≠ _; omega)).trans d0
  have e1 : w4.cell? ⟨b, o + 3, none⟩ = some (.int .i64 c1.n) := (HS4.out.cell (p := ⟨b, o + 3, none⟩) (by show b < _; omega) (by show b ≠ _; omega)).trans d1
  have e2 : w4.cell? ⟨b, o + 6, none⟩ = some (.int .i64 c2.n) := (HS4.out.cell (p := ⟨b, o + 6, none⟩) (by show b < _; omega) (by show b ≠ _; omega)).trans d2
  have s5 : w4.cell? ⟨w1.heap.size, 5, none⟩ = some (.int .i64 0) := HR4.out.cell 5
  have y5 : w4.frozen? ⟨w1.heap.size, 5, none⟩ = false := HR4.out.frozen 5
  have HR5 : Hid (Row (w4.setCell ⟨w1.heap.size, 5, none⟩ (.int .i64 c2.n)) w1.heap.size 25 ((((kindC 12).set 1 (.int .i64 c0.n)).set 3 (.int .i64 c1.n)).set 5 (.int .i64 c2.n))) := Lib.hid (HR4.out.set 5 _)
  have HS5 : Hid (Sole w1.heap.size w4 (w4.setCell ⟨w1.heap.size, 5, none⟩ (.int .i64 c2.n))) := Lib.hid ((Sole.refl _ _).setCell 5 _)
  have HB5 : Hid (Below w.heap.size w (w4.setCell ⟨w1.heap.size, 5, none⟩ (.int .i64 c2.n))) := Lib.hid (HB04.out.trans (HS5.out.below (Nat.le_of_lt hz1) (by have := HB04.out.size; omega)))
  have HA5 : Hid (Row (w4.setCell ⟨w1.heap.size, 5, none⟩ (.int .i64 c2.n)) w.heap.size 25 zeroC) := Lib.hid (HS5.out.row HA4.out (by omega))
  obtain ⟨G, HG⟩ : ∃ G : Fr, H.Shut (G = { zf 12 with seq := c0.n, stream := c1.n, code := c2.n }) := ⟨_, ⟨rfl⟩⟩
  have HRF : Hid (Row (w4.setCell ⟨w1.heap.size, 5, none⟩ (.int .i64 c2.n)) w1.heap.size 25 (G.cells G.bs.length)) := Lib.hid (by rw [HG.out]; exact HR5.out)
  have HLA : Hid ((Tryd.prog.info? 25).map (·.size) = some (G.cells G.bs.length).length) := Lib.hid size25
  have HGR : Hid (Rd (w4.setCell ⟨w1.heap.size, 5, none⟩ (.int .i64 c2.n)) (w4.setCell ⟨w1.heap.size, 5, none⟩ (.int .i64 c2.n)).heap.size G.ba (G.bs.map bv)) := Lib.hid (by rw [HG.out]; exact .inl rfl)
  go_wp2_with (first
    | (refine wl_load rfl 25 (.tmp 5) rfl w1.heap.size rfl 25 _ _ HRF.out under25.choose_spec rfl size25 ?_
       intro vq HVQ)
    | (refine wl_store rfl 25 (.tmp 4) (.tmp 168) rfl w.heap.size _ (G.cells G.bs.length) rfl HVQ.out rfl 25 _ HA5.out HLA.out rfl (cells_ok G _) ?_
       intro w8 HR8 HS8 HZ8))
  refine bodyPost_ret (v := G.v) (results_cell_row Tryd.results52 _ w8 w.heap.size 25 _ (0, 0) _ rfl HR8.out under25.choose_spec rfl HLA.out) rfl ?_
  refine ⟨G, rfl, Lib.hid ⟨?_, ?_, HB5.out.trans (HS8.out.below (Nat.le_refl _) HB5.out.size), by rw [HG.out]; exact .inl rfl⟩⟩
  · rw [HG.out, used_12]; rfl
  · have hrd : Rd w8 w8.heap.size G.ba (G.bs.map bv) := rd_sole_any HGR.out HS8.out (by rw [HG.out]; intro ad e; cases e)
    rw [HG.out] at hrd ⊢
    have x0 := HX.out c0 (by simp)
    have x1 := HX.out c1 (by simp)
    have x2 := HX.out c2 (by simp)
    exact { kind := (show i64ok 12 from ⟨by decide, by decide⟩), seq := ⟨x0.1, x0.2.1⟩, got := (show i64ok 0 from ⟨by decide, by decide⟩), stream := ⟨x1.1, x1.2.1⟩, amount := (show i64ok 0 from ⟨by decide, by decide⟩), code := ⟨x2.1, x2.2.1⟩, who := Nat.zero_le _, name := Nat.zero_le _, weight := (show 0 < 18446744073709551616 from by decide), cap := Nat.le_refl _, max := (show 0 ≤ 9223372036854775807 from by decide), rd := hrd }
set_option maxRecDepth 100000 in
set_option maxHeartbeats 4000000 in
theorem rkind_13 (A : Option Addr) (CC : Nat) (c0 c1 c2 : F.FC) (w : World) (hc : F.CsR w w.heap.size A [c0, c1, c2]) (hx : ∀ x ∈ [c0, c1, c2], F.FC.ok x) : Calls Tryd.prog 52 #[.int .i64 13, .slice A 3 CC] w (RKy 13 [c0, c1, c2] w) := by
  obtain ⟨b, o, rfl, hb, hcl⟩ := csr_at hc (by simp)
  have HCL0 : Hid (w.cell? ⟨b, o, none⟩ = some (.int .i64 c0.n)) := Lib.hid (by have := hcl 0 c0 rfl; simpa using this.1)
  have HCL1 : Hid (w.cell? ⟨b, o + 5, none⟩ = some (.string c1.s)) := Lib.hid (by have := hcl 1 c1 rfl; simpa using this.2.2)
  have HCL2 : Hid (w.cell? ⟨b, o + 7, none⟩ = some (.int .u64 (c2.f : Int))) := Lib.hid (by have := hcl 2 c2 rfl; simpa using this.2.1)
  have HX : Hid (∀ x ∈ [c0, c1, c2], F.FC.ok x) := Lib.hid hx
  clear hc hcl hx
  have HLZ : Hid ((Tryd.prog.info? 25).map (·.size) = some zeroC.length) := Lib.hid size25
  go_enter Tryd.func52, Tryd.ntmps52
  go_wp2_with (first
    | (refine H.wl_allocAt rfl 25 rfl 4 rfl _ _ info25' ?_
       intro w1 HA1 HB1 HZ1
       have hz1 : w.heap.size < w1.heap.size := by rw [HZ1.out]; omega)
    | (refine H.wl_allocAt rfl 25 rfl 5 rfl _ _ info25' ?_
       intro w2 HA2 HB2 HZ2
       have hz2 : w1.heap.size < w2.heap.size := by rw [HZ2.out]; omega)
    | (refine wl_store rfl 25 (.tmp 5) (.tmp 7) rfl w1.heap.size _ (kindC 13) rfl rfl rfl 25 _ HA2.out HLZ.out rfl (kindC_one _) ?_
       intro w3 HR3 HS3 HZ3
       have hb13 : Below w1.heap.size w1 w3 := HB2.out.trans (HS3.out.below (Nat.le_refl _) (by omega))
       have hb03 : Below w.heap.size w w3 := HB1.out.trans (hb13.mono (Nat.le_of_lt hz1))
       have HA3 := Lib.hid (HA1.out.below hb13 hz1)
       have HB03 := Lib.hid hb03
       have hg3 : w1.heap.size < w3.heap.size := by have := HZ3.out; omega
       have hbg : b < w1.heap.size := by omega
       clear hb13 hb03
       have d0 : w3.cell? ⟨b, o, none⟩ = some (.int .i64 c0.n) := (HB03.out.cell (p := ⟨b, o, none⟩) hb).trans HCL0.out
       have d1 : w3.cell? ⟨b, o + 5, none⟩ = some (.string c1.s) := (HB03.out.cell (p := ⟨b, o + 5, none⟩) hb).trans HCL1.out
       have d2 : w3.cell? ⟨b, o + 7, none⟩ = some (.int .u64 (c2.f : Int)) := (HB03.out.cell (p := ⟨b, o + 7, none⟩) hb).trans HCL2.out
       have r1 : w3.cell? ⟨w1.heap.size, 1, none⟩ = some (.int .i64 0) := HR3.out.cell 1
       have z1 : w3.frozen? ⟨w1.heap.size, 1, none⟩ = false := HR3.out.frozen 1
       have r7 : w3.cell? ⟨w1.heap.size, 7, none⟩ = some (.string ⟨#[]⟩) := HR3.out.cell 7
       have z7 : w3.frozen? ⟨w1.heap.size, 7, none⟩ = false := HR3.out.frozen 7
       have r8 : w3.cell? ⟨w1.heap.size, 8, none⟩ = some (.float .f64 0) := HR3.out.cell 8
       have z8 : w3.frozen? ⟨w1.heap.size, 8, none⟩ = false := HR3.out.frozen 8))
  have HLD : Hid (Below w1.heap.size w3 w3) := Lib.hid (Below.refl _ _)
  clear HLD
  have hfb := F.run_frombits (c2.f : Int)
  go_region
  obtain ⟨w4, HW4⟩ : ∃ w4, H.Shut (w4 = (((w3.setCell ⟨w1.heap.size, 1, none⟩ (.int .i64 c0.n)).setCell ⟨w1.heap.size, 7, none⟩ (.string c1.s)).setCell ⟨w1.heap.size, 8, none⟩ (.float .f64 c2.f)).drew) := ⟨_, ⟨rfl⟩⟩
  rw [← HW4.out]
  have HR4 : Hid (Row w4 w1.heap.size 25 ((((kindC 13).set 1 (.int .i64 c0.n)).set 7 (.string c1.s)).set 8 (.float .f64 c2.f))) := Lib.hid (by rw [HW4.out]; exact row_drew ((((HR3.out).set 1 _).set 7 _).set 8 _))
  have HS4 : Hid (Sole w1.heap.size w3 w4) := Lib.hid (by rw [HW4.out]; exact (((((Sole.refl w1.heap.size w3)).setCell 1 _).setCell 7 _).setCell 8 _).drewN 1)
  have HB04 : Hid (Below w.heap.size w w4) := Lib.hid (HB03.out.trans (HS4.out.below (Nat.le_of_lt hz1) (by have := HB03.out.size; omega)))
  have HA4 : Hid (Row w4 w.heap.size 25 zeroC) := Lib.hid (HS4.out.row HA3.out (by omega))
  have e0 : w4.cell? ⟨b, o, none⟩ = some (.int .i64 c0.n) := (HS4.out.cell (p := ⟨b, o, none⟩) (by show b < _; omega) (by show b ≠ _; omega)).trans d0
  have e1 : w4.cell? ⟨b, o + 5, none⟩ = some (.string c1.s) := (HS4.out.cell (p := ⟨b, o + 5, none⟩) (by show b < _; omega) (by show b ≠ _; omega)).trans d1
  have e2 : w4.cell? ⟨b, o + 7, none⟩ = some (.int .u64 (c2.f : Int)) := (HS4.out.cell (p := ⟨b, o + 7, none⟩) (by show b < _; omega) (by show b ≠ _; omega)).trans d2
  obtain ⟨G, HG⟩ : ∃ G : Fr, H.Shut (G = { zf 13 with seq := c0.n, name := c1.s, weight := c2.f }) := ⟨_, ⟨rfl⟩⟩
  have HRF : Hid (Row w4 w1.heap.size 25 (G.cells G.bs.length)) := Lib.hid (by rw [HG.out]; exact HR4.out)
  have HLA : Hid ((Tryd.prog.info? 25).map (·.size) = some (G.cells G.bs.length).length) := Lib.hid size25
  have HGR : Hid (Rd w4 w4.heap.size G.ba (G.bs.map bv)) := Lib.hid (by rw [HG.out]; exact .inl rfl)
  go_wp2_with (first
    | (refine wl_load rfl 25 (.tmp 5) rfl w1.heap.size rfl 25 _ _ HRF.out under25.choose_spec rfl size25 ?_
       intro vq HVQ)
    | (refine wl_store rfl 25 (.tmp 4) (.tmp 168) rfl w.heap.size _ (G.cells G.bs.length) rfl HVQ.out rfl 25 _ HA4.out HLA.out rfl (cells_ok G _) ?_
       intro w8 HR8 HS8 HZ8))
  refine bodyPost_ret (v := G.v) (results_cell_row Tryd.results52 _ w8 w.heap.size 25 _ (0, 0) _ rfl HR8.out under25.choose_spec rfl HLA.out) rfl ?_
  refine ⟨G, rfl, Lib.hid ⟨?_, ?_, HB04.out.trans (HS8.out.below (Nat.le_refl _) HB04.out.size), by rw [HG.out]; exact .inl rfl⟩⟩
  · rw [HG.out, used_13]; rfl
  · have hrd : Rd w8 w8.heap.size G.ba (G.bs.map bv) := rd_sole_any HGR.out HS8.out (by rw [HG.out]; intro ad e; cases e)
    rw [HG.out] at hrd ⊢
    have x0 := HX.out c0 (by simp)
    have x1 := HX.out c1 (by simp)
    have x2 := HX.out c2 (by simp)
    exact { kind := (show i64ok 13 from ⟨by decide, by decide⟩), seq := ⟨x0.1, x0.2.1⟩, got := (show i64ok 0 from ⟨by decide, by decide⟩), stream := (show i64ok 0 from ⟨by decide, by decide⟩), amount := (show i64ok 0 from ⟨by decide, by decide⟩), code := (show i64ok 0 from ⟨by decide, by decide⟩), who := Nat.zero_le _, name := x1.2.2.2, weight := x2.2.2.1, cap := Nat.le_refl _, max := (show 0 ≤ 9223372036854775807 from by decide), rd := hrd }
set_option maxRecDepth 100000 in
set_option maxHeartbeats 4000000 in
theorem rkind_14 (A : Option Addr) (CC : Nat) (c0 c1 : F.FC) (w : World) (hc : F.CsR w w.heap.size A [c0, c1]) (hx : ∀ x ∈ [c0, c1], F.FC.ok x) : Calls Tryd.prog 52 #[.int .i64 14, .slice A 2 CC] w (RKy 14 [c0, c1] w) := by
  obtain ⟨b, o, rfl, hb, hcl⟩ := csr_at hc (by simp)
  have HCL0 : Hid (w.cell? ⟨b, o, none⟩ = some (.int .i64 c0.n)) := Lib.hid (by have := hcl 0 c0 rfl; simpa using this.1)
  have HCL1 : Hid (w.cell? ⟨b, o + 5, none⟩ = some (.string c1.s)) := Lib.hid (by have := hcl 1 c1 rfl; simpa using this.2.2)
  have HX : Hid (∀ x ∈ [c0, c1], F.FC.ok x) := Lib.hid hx
  clear hc hcl hx
  have HLZ : Hid ((Tryd.prog.info? 25).map (·.size) = some zeroC.length) := Lib.hid size25
  go_enter Tryd.func52, Tryd.ntmps52
  go_wp2_with (first
    | (refine H.wl_allocAt rfl 25 rfl 4 rfl _ _ info25' ?_
       intro w1 HA1 HB1 HZ1
       have hz1 : w.heap.size < w1.heap.size := by rw [HZ1.out]; omega)
    | (refine H.wl_allocAt rfl 25 rfl 5 rfl _ _ info25' ?_
       intro w2 HA2 HB2 HZ2
       have hz2 : w1.heap.size < w2.heap.size := by rw [HZ2.out]; omega)
    | (refine wl_store rfl 25 (.tmp 5) (.tmp 7) rfl w1.heap.size _ (kindC 14) rfl rfl rfl 25 _ HA2.out HLZ.out rfl (kindC_one _) ?_
       intro w3 HR3 HS3 HZ3
       have hb13 : Below w1.heap.size w1 w3 := HB2.out.trans (HS3.out.below (Nat.le_refl _) (by omega))
       have hb03 : Below w.heap.size w w3 := HB1.out.trans (hb13.mono (Nat.le_of_lt hz1))
       have HA3 := Lib.hid (HA1.out.below hb13 hz1)
       have HB03 := Lib.hid hb03
       have hg3 : w1.heap.size < w3.heap.size := by have := HZ3.out; omega
       have hbg : b < w1.heap.size := by omega
       clear hb13 hb03
       have d0 : w3.cell? ⟨b, o, none⟩ = some (.int .i64 c0.n) := (HB03.out.cell (p := ⟨b, o, none⟩) hb).trans HCL0.out
       have d1 : w3.cell? ⟨b, o + 5, none⟩ = some (.string c1.s) := (HB03.out.cell (p := ⟨b, o + 5, none⟩) hb).trans HCL1.out
       have r1 : w3.cell? ⟨w1.heap.size, 1, none⟩ = some (.int .i64 0) := HR3.out.cell 1
       have z1 : w3.frozen? ⟨w1.heap.size, 1, none⟩ = false := HR3.out.frozen 1
       have r7 : w3.cell? ⟨w1.heap.size, 7, none⟩ = some (.string ⟨#[]⟩) := HR3.out.cell 7
       have z7 : w3.frozen? ⟨w1.heap.size, 7, none⟩ = false := HR3.out.frozen 7))
  have HLD : Hid (Below w1.heap.size w3 w3) := Lib.hid (Below.refl _ _)
  clear HLD
  go_region
  obtain ⟨w4, HW4⟩ : ∃ w4, H.Shut (w4 = ((w3.setCell ⟨w1.heap.size, 1, none⟩ (.int .i64 c0.n)).setCell ⟨w1.heap.size, 7, none⟩ (.string c1.s)).drew) := ⟨_, ⟨rfl⟩⟩
  rw [← HW4.out]
  have HR4 : Hid (Row w4 w1.heap.size 25 (((kindC 14).set 1 (.int .i64 c0.n)).set 7 (.string c1.s))) := Lib.hid (by rw [HW4.out]; exact row_drew (((HR3.out).set 1 _).set 7 _))
  have HS4 : Hid (Sole w1.heap.size w3 w4) := Lib.hid (by rw [HW4.out]; exact ((((Sole.refl w1.heap.size w3)).setCell 1 _).setCell 7 _).drewN 1)
  have HB04 : Hid (Below w.heap.size w w4) := Lib.hid (HB03.out.trans (HS4.out.below (Nat.le_of_lt hz1) (by have := HB03.out.size; omega)))
  have HA4 : Hid (Row w4 w.heap.size 25 zeroC) := Lib.hid (HS4.out.row HA3.out (by omega))
  have e0 : w4.cell? ⟨b, o, none⟩ = some (.int .i64 c0.n) := (HS4.out.cell (p := ⟨b, o, none⟩) (by show b < _; omega) (by show b ≠ _; omega)).trans d0
  have e1 : w4.cell? ⟨b, o + 5, none⟩ = some (.string c1.s) := (HS4.out.cell (p := ⟨b, o + 5, none⟩) (by show b < _; omega) (by show b ≠ _; omega)).trans d1
  obtain ⟨G, HG⟩ : ∃ G : Fr, H.Shut (G = { zf 14 with seq := c0.n, name := c1.s }) := ⟨_, ⟨rfl⟩⟩
  have HRF : Hid (Row w4 w1.heap.size 25 (G.cells G.bs.length)) := Lib.hid (by rw [HG.out]; exact HR4.out)
  have HLA : Hid ((Tryd.prog.info? 25).map (·.size) = some (G.cells G.bs.length).length) := Lib.hid size25
  have HGR : Hid (Rd w4 w4.heap.size G.ba (G.bs.map bv)) := Lib.hid (by rw [HG.out]; exact .inl rfl)
  go_wp2_with (first
    | (refine wl_load rfl 25 (.tmp 5) rfl w1.heap.size rfl 25 _ _ HRF.out under25.choose_spec rfl size25 ?_
       intro vq HVQ)
    | (refine wl_store rfl 25 (.tmp 4) (.tmp 168) rfl w.heap.size _ (G.cells G.bs.length) rfl HVQ.out rfl 25 _ HA4.out HLA.out rfl (cells_ok G _) ?_
       intro w8 HR8 HS8 HZ8))
  refine bodyPost_ret (v := G.v) (results_cell_row Tryd.results52 _ w8 w.heap.size 25 _ (0, 0) _ rfl HR8.out under25.choose_spec rfl HLA.out) rfl ?_
  refine ⟨G, rfl, Lib.hid ⟨?_, ?_, HB04.out.trans (HS8.out.below (Nat.le_refl _) HB04.out.size), by rw [HG.out]; exact .inl rfl⟩⟩
  · rw [HG.out, used_14]; rfl
  · have hrd : Rd w8 w8.heap.size G.ba (G.bs.map bv) := rd_sole_any HGR.out HS8.out (by rw [HG.out]; intro ad e; cases e)
    rw [HG.out] at hrd ⊢
    have x0 := HX.out c0 (by simp)
    have x1 := HX.out c1 (by simp)
    exact { kind := (show i64ok 14 from ⟨by decide, by decide⟩), seq := ⟨x0.1, x0.2.1⟩, got := (show i64ok 0 from ⟨by decide, by decide⟩), stream := (show i64ok 0 from ⟨by decide, by decide⟩), amount := (show i64ok 0 from ⟨by decide, by decide⟩), code := (show i64ok 0 from ⟨by decide, by decide⟩), who := Nat.zero_le _, name := x1.2.2.2, weight := (show 0 < 18446744073709551616 from by decide), cap := Nat.le_refl _, max := (show 0 ≤ 9223372036854775807 from by decide), rd := hrd }
set_option maxRecDepth 100000 in
set_option maxHeartbeats 4000000 in
theorem rkind_15 (A : Option Addr) (CC : Nat) (c0 c1 c2 : F.FC) (w : World) (hc : F.CsR w w.heap.size A [c0, c1, c2]) (hx : ∀ x ∈ [c0, c1, c2], F.FC.ok x) : Calls Tryd.prog 52 #[.int .i64 15, .slice A 3 CC] w (RKy 15 [c0, c1, c2] w) := by
  obtain ⟨b, o, rfl, hb, hcl⟩ := csr_at hc (by simp)
  have HCL0 : Hid (w.cell? ⟨b, o, none⟩ = some (.int .i64 c0.n)) := Lib.hid (by have := hcl 0 c0 rfl; simpa using this.1)
  have HCL1 : Hid (w.cell? ⟨b, o + 5, none⟩ = some (.string c1.s)) := Lib.hid (by have := hcl 1 c1 rfl; simpa using this.2.2)
  have HCL2 : Hid (w.cell? ⟨b, o + 8, none⟩ = some (.string c2.s)) := Lib.hid (by have := hcl 2 c2 rfl; simpa using this.2.2)
  have HX : Hid (∀ x ∈ [c0, c1, c2], F.FC.ok x) := Lib.hid hx
  clear hc hcl hx
  have HLZ : Hid ((Tryd.prog.info? 25).map (·.size) = some zeroC.length) := Lib.hid size25
  go_enter Tryd.func52, Tryd.ntmps52
  go_wp2_with (first
    | (refine H.wl_allocAt rfl 25 rfl 4 rfl _ _ info25' ?_
       intro w1 HA1 HB1 HZ1
       have hz1 : w.heap.size < w1.heap.size := by rw [HZ1.out]; omega)
    | (refine H.wl_allocAt rfl 25 rfl 5 rfl _ _ info25' ?_
       intro w2 HA2 HB2 HZ2
       have hz2 : w1.heap.size < w2.heap.size := by rw [HZ2.out]; omega)
    | (refine wl_store rfl 25 (.tmp 5) (.tmp 7) rfl w1.heap.size _ (kindC 15) rfl rfl rfl 25 _ HA2.out HLZ.out rfl (kindC_one _) ?_
       intro w3 HR3 HS3 HZ3
       have hb13 : Below w1.heap.size w1 w3 := HB2.out.trans (HS3.out.below (Nat.le_refl _) (by omega))
       have hb03 : Below w.heap.size w w3 := HB1.out.trans (hb13.mono (Nat.le_of_lt hz1))
       have HA3 := Lib.hid (HA1.out.below hb13 hz1)
       have HB03 := Lib.hid hb03
       have hg3 : w1.heap.size < w3.heap.size := by have := HZ3.out; omega
       have hbg : b < w1.heap.size := by omega
       clear hb13 hb03
       have d0 : w3.cell? ⟨b, o, none⟩ = some (.int .i64 c0.n) := (HB03.out.cell (p := ⟨b, o, none⟩) hb).trans HCL0.out
       have d1 : w3.cell? ⟨b, o + 5, none⟩ = some (.string c1.s) := (HB03.out.cell (p := ⟨b, o + 5, none⟩) hb).trans HCL1.out
       have d2 : w3.cell? ⟨b, o + 8, none⟩ = some (.string c2.s) := (HB03.out.cell (p := ⟨b, o + 8, none⟩) hb).trans HCL2.out
       have r1 : w3.cell? ⟨w1.heap.size, 1, none⟩ = some (.int .i64 0) := HR3.out.cell 1
       have z1 : w3.frozen? ⟨w1.heap.size, 1, none⟩ = false := HR3.out.frozen 1
       have r6 : w3.cell? ⟨w1.heap.size, 6, none⟩ = some (.string ⟨#[]⟩) := HR3.out.cell 6
       have z6 : w3.frozen? ⟨w1.heap.size, 6, none⟩ = false := HR3.out.frozen 6
       have r7 : w3.cell? ⟨w1.heap.size, 7, none⟩ = some (.string ⟨#[]⟩) := HR3.out.cell 7
       have z7 : w3.frozen? ⟨w1.heap.size, 7, none⟩ = false := HR3.out.frozen 7))
  have HLD : Hid (Below w1.heap.size w3 w3) := Lib.hid (Below.refl _ _)
  clear HLD
  go_region
  obtain ⟨w4, HW4⟩ : ∃ w4, H.Shut (w4 = (((w3.setCell ⟨w1.heap.size, 1, none⟩ (.int .i64 c0.n)).setCell ⟨w1.heap.size, 6, none⟩ (.string c1.s)).setCell ⟨w1.heap.size, 7, none⟩ (.string c2.s)).drew) := ⟨_, ⟨rfl⟩⟩
  rw [← HW4.out]
  have HR4 : Hid (Row w4 w1.heap.size 25 ((((kindC 15).set 1 (.int .i64 c0.n)).set 6 (.string c1.s)).set 7 (.string c2.s))) := Lib.hid (by rw [HW4.out]; exact row_drew ((((HR3.out).set 1 _).set 6 _).set 7 _))
  have HS4 : Hid (Sole w1.heap.size w3 w4) := Lib.hid (by rw [HW4.out]; exact (((((Sole.refl w1.heap.size w3)).setCell 1 _).setCell 6 _).setCell 7 _).drewN 1)
  have HB04 : Hid (Below w.heap.size w w4) := Lib.hid (HB03.out.trans (HS4.out.below (Nat.le_of_lt hz1) (by have := HB03.out.size; omega)))
  have HA4 : Hid (Row w4 w.heap.size 25 zeroC) := Lib.hid (HS4.out.row HA3.out (by omega))
  have e0 : w4.cell? ⟨b, o, none⟩ = some (.int .i64 c0.n) := (HS4.out.cell (p := ⟨b, o, none⟩) (by show b < _; omega) (by show b ≠ _; omega)).trans d0
  have e1 : w4.cell? ⟨b, o + 5, none⟩ = some (.string c1.s) := (HS4.out.cell (p := ⟨b, o + 5, none⟩) (by show b < _; omega) (by show b ≠ _; omega)).trans d1
  have e2 : w4.cell? ⟨b, o + 8, none⟩ = some (.string c2.s) := (HS4.out.cell (p := ⟨b, o + 8, none⟩) (by show b < _; omega) (by show b ≠ _; omega)).trans d2
  obtain ⟨G, HG⟩ : ∃ G : Fr, H.Shut (G = { zf 15 with seq := c0.n, who := c1.s, name := c2.s }) := ⟨_, ⟨rfl⟩⟩
  have HRF : Hid (Row w4 w1.heap.size 25 (G.cells G.bs.length)) := Lib.hid (by rw [HG.out]; exact HR4.out)
  have HLA : Hid ((Tryd.prog.info? 25).map (·.size) = some (G.cells G.bs.length).length) := Lib.hid size25
  have HGR : Hid (Rd w4 w4.heap.size G.ba (G.bs.map bv)) := Lib.hid (by rw [HG.out]; exact .inl rfl)
  go_wp2_with (first
    | (refine wl_load rfl 25 (.tmp 5) rfl w1.heap.size rfl 25 _ _ HRF.out under25.choose_spec rfl size25 ?_
       intro vq HVQ)
    | (refine wl_store rfl 25 (.tmp 4) (.tmp 168) rfl w.heap.size _ (G.cells G.bs.length) rfl HVQ.out rfl 25 _ HA4.out HLA.out rfl (cells_ok G _) ?_
       intro w8 HR8 HS8 HZ8))
  refine bodyPost_ret (v := G.v) (results_cell_row Tryd.results52 _ w8 w.heap.size 25 _ (0, 0) _ rfl HR8.out under25.choose_spec rfl HLA.out) rfl ?_
  refine ⟨G, rfl, Lib.hid ⟨?_, ?_, HB04.out.trans (HS8.out.below (Nat.le_refl _) HB04.out.size), by rw [HG.out]; exact .inl rfl⟩⟩
  · rw [HG.out, used_15]; rfl
  · have hrd : Rd w8 w8.heap.size G.ba (G.bs.map bv) := rd_sole_any HGR.out HS8.out (by rw [HG.out]; intro ad e; cases e)
    rw [HG.out] at hrd ⊢
    have x0 := HX.out c0 (by simp)
    have x1 := HX.out c1 (by simp)
    have x2 := HX.out c2 (by simp)
    exact { kind := (show i64ok 15 from ⟨by decide, by decide⟩), seq := ⟨x0.1, x0.2.1⟩, got := (show i64ok 0 from ⟨by decide, by decide⟩), stream := (show i64ok 0 from ⟨by decide, by decide⟩), amount := (show i64ok 0 from ⟨by decide, by decide⟩), code := (show i64ok 0 from ⟨by decide, by decide⟩), who := x1.2.2.2, name := x2.2.2.2, weight := (show 0 < 18446744073709551616 from by decide), cap := Nat.le_refl _, max := (show 0 ≤ 9223372036854775807 from by decide), rd := hrd }
set_option maxRecDepth 100000 in
set_option maxHeartbeats 4000000 in
theorem rkind_16 (A : Option Addr) (CC : Nat) (c0 c1 c2 : F.FC) (w : World) (hc : F.CsR w w.heap.size A [c0, c1, c2]) (hx : ∀ x ∈ [c0, c1, c2], F.FC.ok x) : Calls Tryd.prog 52 #[.int .i64 16, .slice A 3 CC] w (RKy 16 [c0, c1, c2] w) := by
  obtain ⟨b, o, rfl, hb, hcl⟩ := csr_at hc (by simp)
  have HCL0 : Hid (w.cell? ⟨b, o, none⟩ = some (.int .i64 c0.n)) := Lib.hid (by have := hcl 0 c0 rfl; simpa using this.1)
  have HCL1 : Hid (w.cell? ⟨b, o + 5, none⟩ = some (.string c1.s)) := Lib.hid (by have := hcl 1 c1 rfl; simpa using this.2.2)
  have HCL2 : Hid (w.cell? ⟨b, o + 8, none⟩ = some (.string c2.s)) := Lib.hid (by have := hcl 2 c2 rfl; simpa using this.2.2)
  have HX : Hid (∀ x ∈ [c0, c1, c2], F.FC.ok x) := Lib.hid hx
  clear hc hcl hx
  have HLZ : Hid ((Tryd.prog.info? 25).map (·.size) = some zeroC.length) := Lib.hid size25
  go_enter Tryd.func52, Tryd.ntmps52
  go_wp2_with (first
    | (refine H.wl_allocAt rfl 25 rfl 4 rfl _ _ info25' ?_
       intro w1 HA1 HB1 HZ1
       have hz1 : w.heap.size < w1.heap.size := by rw [HZ1.out]; omega)
    | (refine H.wl_allocAt rfl 25 rfl 5 rfl _ _ info25' ?_
       intro w2 HA2 HB2 HZ2
       have hz2 : w1.heap.size < w2.heap.size := by rw [HZ2.out]; omega)
    | (refine wl_store rfl 25 (.tmp 5) (.tmp 7) rfl w1.heap.size _ (kindC 16) rfl rfl rfl 25 _ HA2.out HLZ.out rfl (kindC_one _) ?_
       intro w3 HR3 HS3 HZ3
       have hb13 : Below w1.heap.size w1 w3 := HB2.out.trans (HS3.out.below (Nat.le_refl _) (by omega))
       have hb03 : Below w.heap.size w w3 := HB1.out.trans (hb13.mono (Nat.le_of_lt hz1))
       have HA3 := Lib.hid (HA1.out.below hb13 hz1)
       have HB03 := Lib.hid hb03
       have hg3 : w1.heap.size < w3.heap.size := by have := HZ3.out; omega
       have hbg : b < w1.heap.size := by omega
       clear hb13 hb03
       have d0 : w3.cell? ⟨b, o, none⟩ = some (.int .i64 c0.n) := (HB03.out.cell (p := ⟨b, o, none⟩) hb).trans HCL0.out
       have d1 : w3.cell? ⟨b, o + 5, none⟩ = some (.string c1.s) := (HB03.out.cell (p := ⟨b, o + 5, none⟩) hb).trans HCL1.out
       have d2 : w3.cell? ⟨b, o + 8, none⟩ = some (.string c2.s) := (HB03.out.cell (p := ⟨b, o + 8, none⟩) hb).trans HCL2.out
       have r1 : w3.cell? ⟨w1.heap.size, 1, none⟩ = some (.int .i64 0) := HR3.out.cell 1
       have z1 : w3.frozen? ⟨w1.heap.size, 1, none⟩ = false := HR3.out.frozen 1
       have r6 : w3.cell? ⟨w1.heap.size, 6, none⟩ = some (.string ⟨#[]⟩) := HR3.out.cell 6
       have z6 : w3.frozen? ⟨w1.heap.size, 6, none⟩ = false := HR3.out.frozen 6
       have r7 : w3.cell? ⟨w1.heap.size, 7, none⟩ = some (.string ⟨#[]⟩) := HR3.out.cell 7
       have z7 : w3.frozen? ⟨w1.heap.size, 7, none⟩ = false := HR3.out.frozen 7))
  have HLD : Hid (Below w1.heap.size w3 w3) := Lib.hid (Below.refl _ _)
  clear HLD
  go_region
  obtain ⟨w4, HW4⟩ : ∃ w4, H.Shut (w4 = (((w3.setCell ⟨w1.heap.size, 1, none⟩ (.int .i64 c0.n)).setCell ⟨w1.heap.size, 6, none⟩ (.string c1.s)).setCell ⟨w1.heap.size, 7, none⟩ (.string c2.s)).drew) := ⟨_, ⟨rfl⟩⟩
  rw [← HW4.out]
  have HR4 : Hid (Row w4 w1.heap.size 25 ((((kindC 16).set 1 (.int .i64 c0.n)).set 6 (.string c1.s)).set 7 (.string c2.s))) := Lib.hid (by rw [HW4.out]; exact row_drew ((((HR3.out).set 1 _).set 6 _).set 7 _))
  have HS4 : Hid (Sole w1.heap.size w3 w4) := Lib.hid (by rw [HW4.out]; exact (((((Sole.refl w1.heap.size w3)).setCell 1 _).setCell 6 _).setCell 7 _).drewN 1)
  have HB04 : Hid (Below w.heap.size w w4) := Lib.hid (HB03.out.trans (HS4.out.below (Nat.le_of_lt hz1) (by have := HB03.out.size; omega)))
  have HA4 : Hid (Row w4 w.heap.size 25 zeroC) := Lib.hid (HS4.out.row HA3.out (by omega))
  have e0 : w4.cell? ⟨b, o, none⟩ = some (.int .i64 c0.n) := (HS4.out.cell (p := ⟨b, o, none⟩) (by show b < _; omega) (by show b ≠ _; omega)).trans d0
  have e1 : w4.cell? ⟨b, o + 5, none⟩ = some (.string c1.s) := (HS4.out.cell (p := ⟨b, o + 5, none⟩) (by show b < _; omega) (by show b ≠ _; omega)).trans d1
  have e2 : w4.cell? ⟨b, o + 8, none⟩ = some (.string c2.s) := (HS4.out.cell (p := ⟨b, o + 8, none⟩) (by show b < _; omega) (by show b ≠ _; omega)).trans d2
  obtain ⟨G, HG⟩ : ∃ G : Fr, H.Shut (G = { zf 16 with seq := c0.n, who := c1.s, name := c2.s }) := ⟨_, ⟨rfl⟩⟩
  have HRF : Hid (Row w4 w1.heap.size 25 (G.cells G.bs.length)) := Lib.hid (by rw [HG.out]; exact HR4.out)
  have HLA : Hid ((Tryd.prog.info? 25).map (·.size) = some (G.cells G.bs.length).length) := Lib.hid size25
  have HGR : Hid (Rd w4 w4.heap.size G.ba (G.bs.map bv)) := Lib.hid (by rw [HG.out]; exact .inl rfl)
  go_wp2_with (first
    | (refine wl_load rfl 25 (.tmp 5) rfl w1.heap.size rfl 25 _ _ HRF.out under25.choose_spec rfl size25 ?_
       intro vq HVQ)
    | (refine wl_store rfl 25 (.tmp 4) (.tmp 168) rfl w.heap.size _ (G.cells G.bs.length) rfl HVQ.out rfl 25 _ HA4.out HLA.out rfl (cells_ok G _) ?_
       intro w8 HR8 HS8 HZ8))
  refine bodyPost_ret (v := G.v) (results_cell_row Tryd.results52 _ w8 w.heap.size 25 _ (0, 0) _ rfl HR8.out under25.choose_spec rfl HLA.out) rfl ?_
  refine ⟨G, rfl, Lib.hid ⟨?_, ?_, HB04.out.trans (HS8.out.below (Nat.le_refl _) HB04.out.size), by rw [HG.out]; exact .inl rfl⟩⟩
  · rw [HG.out, used_16]; rfl
  · have hrd : Rd w8 w8.heap.size G.ba (G.bs.map bv) := rd_sole_any HGR.out HS8.out (by rw [HG.out]; intro ad e; cases e)
    rw [HG.out] at hrd ⊢
    have x0 := HX.out c0 (by simp)
    have x1 := HX.out c1 (by simp)
    have x2 := HX.out c2 (by simp)
    exact { kind := (show i64ok 16 from ⟨by decide, by decide⟩), seq := ⟨x0.1, x0.2.1⟩, got := (show i64ok 0 from ⟨by decide, by decide⟩), stream := (show i64ok 0 from ⟨by decide, by decide⟩), amount := (show i64ok 0 from ⟨by decide, by decide⟩), code := (show i64ok 0 from ⟨by decide, by decide⟩), who := x1.2.2.2, name := x2.2.2.2, weight := (show 0 < 18446744073709551616 from by decide), cap := Nat.le_refl _, max := (show 0 ≤ 9223372036854775807 from by decide), rd := hrd }
set_option maxRecDepth 100000 in
set_option maxHeartbeats 4000000 in
theorem rkind_17 (A : Option Addr) (CC : Nat) (c0 c1 c2 : F.FC) (w : World) (hc : F.CsR w w.heap.size A [c0, c1, c2]) (hx : ∀ x ∈ [c0, c1, c2], F.FC.ok x) : Calls Tryd.prog 52 #[.int .i64 17, .slice A 3 CC] w (RKy 17 [c0, c1, c2] w) := by
  obtain ⟨b, o, rfl, hb, hcl⟩ := csr_at hc (by simp)
  have HCL0 : Hid (w.cell? ⟨b, o, none⟩ = some (.int .i64 c0.n)) := Lib.hid (by have := hcl 0 c0 rfl; simpa using this.1)
  have HCL1 : Hid (w.cell? ⟨b, o + 3, none⟩ = some (.int .i64 c1.n)) := Lib.hid (by have := hcl 1 c1 rfl; simpa using this.1)
  have HCL2 : Hid (w.cell? ⟨b, o + 8, none⟩ = some (.string c2.s)) := Lib.hid (by have := hcl 2 c2 rfl; simpa using this.2.2)
  have HX : Hid (∀ x ∈ [c0, c1, c2], F.FC.ok x) := Lib.hid hx
  clear hc hcl hx
  have HLZ : Hid ((Tryd.prog.info? 25).map (·.size) = some zeroC.length) := Lib.hid size25
  go_enter Tryd.func52, Tryd.ntmps52
  go_wp2_with (first
    | (refine H.wl_allocAt rfl 25 rfl 4 rfl _ _ info25' ?_
       intro w1 HA1 HB1 HZ1
       have hz1 : w.heap.size < w1.heap.size := by rw [HZ1.out]; omega)
    | (refine H.wl_allocAt rfl 25 rfl 5 rfl _ _ info25' ?_
       intro w2 HA2 HB2 HZ2
       have hz2 : w1.heap.size < w2.heap.size := by rw [HZ2.out]; omega)
    | (refine wl_store rfl 25 (.tmp 5) (.tmp 7) rfl w1.heap.size _ (kindC 17) rfl rfl rfl 25 _ HA2.out HLZ.out rfl (kindC_one _) ?_
       intro w3 HR3 HS3 HZ3
       have hb13 : Below w1.heap.size w1 w3 := HB2.out.trans (HS3.out.below (Nat.le_refl _) (by omega))
       have hb03 : Below w.heap.size w w3 := HB1.out.trans (hb13.mono (Nat.le_of_lt hz1))
       have HA3 := Lib.hid (HA1.out.below hb13 hz1)
       have HB03 := Lib.hid hb03
       have hg3 : w1.heap.size < w3.heap.size := by have := HZ3.out; omega
       have hbg : b < w1.heap.size := by omega
       clear hb13 hb03
       have d0 : w3.cell? ⟨b, o, none⟩ = some (.int .i64 c0.n) := (HB03.out.cell (p := ⟨b, o, none⟩) hb).trans HCL0.out
       have d1 : w3.cell? ⟨b, o + 3, none⟩ = some (.int .i64 c1.n) := (HB03.out.cell (p := ⟨b, o + 3, none⟩) hb).trans HCL1.out
       have d2 : w3.cell? ⟨b, o + 8, none⟩ = some (.string c2.s) := (HB03.out.cell (p := ⟨b, o + 8, none⟩) hb).trans HCL2.out
       have r1 : w3.cell? ⟨w1.heap.size, 1, none⟩ = some (.int .i64 0) := HR3.out.cell 1
       have z1 : w3.frozen? ⟨w1.heap.size, 1, none⟩ = false := HR3.out.frozen 1
       have r5 : w3.cell? ⟨w1.heap.size, 5, none⟩ = some (.int .i64 0) := HR3.out.cell 5
       have z5 : w3.frozen? ⟨w1.heap.size, 5, none⟩ = false := HR3.out.frozen 5
       have r7 : w3.cell? ⟨w1.heap.size, 7, none⟩ = some (.string ⟨#[]⟩) := HR3.out.cell 7
       have z7 : w3.frozen? ⟨w1.heap.size, 7, none⟩ = false := HR3.out.frozen 7))
  have HLD : Hid (Below w1.heap.size w3 w3) := Lib.hid (Below.refl _ _)
  clear HLD
  go_region
  obtain ⟨w4, HW4⟩ : ∃ w4, H.Shut (w4 = (((w3.setCell ⟨w1.heap.size, 1, none⟩ (.int .i64 c0.n)).setCell ⟨w1.heap.size, 5, none⟩ (.int .i64 c1.n)).setCell ⟨w1.heap.size, 7, none⟩ (.string c2.s)).drew) := ⟨_, ⟨rfl⟩⟩
  rw [← HW4.out]
  have HR4 : Hid (Row w4 w1.heap.size 25 ((((kindC 17).set 1 (.int .i64 c0.n)).set 5 (.int .i64 c1.n)).set 7 (.string c2.s))) := Lib.hid (by rw [HW4.out]; exact row_drew ((((HR3.out).set 1 _).set 5 _).set 7 _))
  have HS4 : Hid (Sole w1.heap.size w3 w4) := Lib.hid (by rw [HW4.out]; exact (((((Sole.refl w1.heap.size w3)).setCell 1 _).setCell 5 _).setCell 7 _).drewN 1)
  have HB04 : Hid (Below w.heap.size w w4) := Lib.hid (HB03.out.trans (HS4.out.below (Nat.le_of_lt hz1) (by have := HB03.out.size; omega)))
  have HA4 : Hid (Row w4 w.heap.size 25 zeroC) := Lib.hid (HS4.out.row HA3.out (by omega))
  have e0 : w4.cell? ⟨b, o, none⟩ = some (.int .i64 c0.n) := (HS4.out.cell (p := ⟨b, o, none⟩) (by show b < _; omega) (by show b ≠ _; omega)).trans d0
  have e1 : w4.cell? ⟨b, o + 3, none⟩ = some (.int .i64 c1.n) := (HS4.out.cell (p := ⟨b, o + 3, none⟩) (by show b < _; omega) (by show b ≠ _; omega)).trans d1
  have e2 : w4.cell? ⟨b, o + 8, none⟩ = some (.string c2.s) := (HS4.out.cell (p := ⟨b, o + 8, none⟩) (by show b < _; omega) (by show b ≠ _; omega)).trans d2
  obtain ⟨G, HG⟩ : ∃ G : Fr, H.Shut (G = { zf 17 with seq := c0.n, code := c1.n, name := c2.s }) := ⟨_, ⟨rfl⟩⟩
  have HRF : Hid (Row w4 w1.heap.size 25 (G.cells G.bs.length)) := Lib.hid (by rw [HG.out]; exact HR4.out)
  have HLA : Hid ((Tryd.prog.info? 25).map (·.size) = some (G.cells G.bs.length).length) := Lib.hid size25
  have HGR : Hid (Rd w4 w4.heap.size G.ba (G.bs.map bv)) := Lib.hid (by rw [HG.out]; exact .inl rfl)
  go_wp2_with (first
    | (refine wl_load rfl 25 (.tmp 5) rfl w1.heap.size rfl 25 _ _ HRF.out under25.choose_spec rfl size25 ?_
       intro vq HVQ)
    | (refine wl_store rfl 25 (.tmp 4) (.tmp 168) rfl w.heap.size _ (G.cells G.bs.length) rfl HVQ.out rfl 25 _ HA4.out HLA.out rfl (cells_ok G _) ?_
       intro w8 HR8 HS8 HZ8))
  refine bodyPost_ret (v := G.v) (results_cell_row Tryd.results52 _ w8 w.heap.size 25 _ (0, 0) _ rfl HR8.out under25.choose_spec rfl HLA.out) rfl ?_
  refine ⟨G, rfl, Lib.hid ⟨?_, ?_, HB04.out.trans (HS8.out.below (Nat.le_refl _) HB04.out.size), by rw [HG.out]; exact .inl rfl⟩⟩
  · rw [HG.out, used_17]; rfl
  · have hrd : Rd w8 w8.heap.size G.ba (G.bs.map bv) := rd_sole_any HGR.out HS8.out (by rw [HG.out]; intro ad e; cases e)
    rw [HG.out] at hrd ⊢
    have x0 := HX.out c0 (by simp)
    have x1 := HX.out c1 (by simp)
    have x2 := HX.out c2 (by simp)
    exact { kind := (show i64ok 17 from ⟨by decide, by decide⟩), seq := ⟨x0.1, x0.2.1⟩, got := (show i64ok 0 from ⟨by decide, by decide⟩), stream := (show i64ok 0 from ⟨by decide, by decide⟩), amount := (show i64ok 0 from ⟨by decide, by decide⟩), code := ⟨x1.1, x1.2.1⟩, who := Nat.zero_le _, name := x2.2.2.2, weight := (show 0 < 18446744073709551616 from by decide), cap := Nat.le_refl _, max := (show 0 ≤ 9223372036854775807 from by decide), rd := hrd }
end Go.Proofs.YtmhfhdbaeijcfaaDoor
