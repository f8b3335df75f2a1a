/- The document's Kind of the kinds 1, 4. -/
import Derived.Test.YtmhfhdbaeijcfaaDoorRkr
namespace Go.Proofs.YtmhfhdbaeijcfaaDoor
open Go.RowKit
open Go.Proofs.YtmhfhdbaeijcfaaDoor.H
attribute [local go_sem] F.run_store_f64
set_option maxRecDepth 100000 in
set_option maxHeartbeats 4000000 in
theorem rkind_1 (A : Option Addr) (CC : Nat) (c0 c1 c2 : F.FC) (w : World) (hc : F.CsR w w.heap.size A [c0, c1, c2]) (hx : ∀ x ∈ [c0, c1, c2], F.FC.ok x) : Calls Tryd.prog 52 #[.int .i64 1, .slice A 3 CC] w (RKy 1 [c0, c1, c2] w) := by
  obtain ⟨b, o, rfl, hb, hcl⟩ := csr_at hc (by simp)
  have HCL0 : Hid (w.cell? ⟨b, o + 2, none⟩ = some (.string c0.s)) := Lib.hid (by have := hcl 0 c0 rfl; simpa using this.2.2)
  have HCL1 : Hid (w.cell? ⟨b, o + 3, none⟩ = some (.int .i64 c1.n)) := Lib.hid (by have := hcl 1 c1 rfl; simpa using this.1)
  have HCL2 : Hid (w.cell? ⟨b, o + 8, none⟩ = some (.string c2.s)) := Lib.hid (by have := hcl 2 c2 rfl; simpa using this.2.2)
  have HX : Hid (∀ x ∈ [c0, c1, c2], F.FC.ok x) := Lib.hid hx
  clear hc hcl hx
  have HLZ : Hid ((Tryd.prog.info? 25).map (·.size) = some zeroC.length) := Lib.hid size25
  go_enter Tryd.func52, Tryd.ntmps52
  go_wp2_with (first
    | (refine H.wl_allocAt rfl 25 rfl 4 rfl _ _ info25' ?_
       intro w1 HA1 HB1 HZ1
       have hz1 : w.heap.size < w1.heap.size := by rw [HZ1.out]; omega)
    | (refine H.wl_allocAt rfl 25 rfl 5 rfl _ _ info25' ?_
       intro w2 HA2 HB2 HZ2
       have hz2 : w1.heap.size < w2.heap.size := by rw [HZ2.out]; omega)
    | (refine wl_store rfl 25 (.tmp 5) (.tmp 7) rfl w1.heap.size _ (kindC 1) rfl rfl rfl 25 _ HA2.out HLZ.out rfl (kindC_one _) ?_
       intro w3 HR3 HS3 HZ3
       have hb13 : Below w1.heap.size w1 w3 := HB2.out.trans (HS3.out.below (Nat.le_refl _) (by omega))
       have hb03 : Below w.heap.size w w3 := HB1.out.trans (hb13.mono (Nat.le_of_lt hz1))
       have HA3 := Lib.hid (HA1.out.below hb13 hz1)
       have HB03 := Lib.hid hb03
       have hg3 : w1.heap.size < w3.heap.size := by have := HZ3.out; omega
       have hbg : b < w1.heap.size := by omega
       clear hb13 hb03
       have d0 : w3.cell? ⟨b, o + 2, none⟩ = some (.string c0.s) := (HB03.out.cell (p := ⟨b, o + 2, none⟩) hb).trans HCL0.out
       have d1 : w3.cell? ⟨b, o + 3, none⟩ = some (.int .i64 c1.n) := (HB03.out.cell (p := ⟨b, o + 3, none⟩) hb).trans HCL1.out
       have d2 : w3.cell? ⟨b, o + 8, none⟩ = some (.string c2.s) := (HB03.out.cell (p := ⟨b, o + 8, none⟩) hb).trans HCL2.out
       have r6 : w3.cell? ⟨w1.heap.size, 6, none⟩ = some (.string ⟨#[]⟩) := HR3.out.cell 6
       have z6 : w3.frozen? ⟨w1.heap.size, 6, none⟩ = false := HR3.out.frozen 6
       have r2 : w3.cell? ⟨w1.heap.size, 2, none⟩ = some (.int .i64 0) := HR3.out.cell 2
       have z2 : w3.frozen? ⟨w1.heap.size, 2, none⟩ = false := HR3.out.frozen 2
       have r9 : w3.cell? ⟨w1.heap.size, 9, none⟩ = some (.slice none 0 0) := HR3.out.cell 9
       have z9 : w3.frozen? ⟨w1.heap.size, 9, none⟩ = false := HR3.out.frozen 9))
  obtain ⟨u0, HU0⟩ : ∃ u, H.Shut (u = w3.drew) := ⟨_, ⟨rfl⟩⟩
  have HRU0 : Hid (Row u0 w1.heap.size 25 (kindC 1)) := Lib.hid (by rw [HU0.out]; exact row_drew (HR3.out))
  have HSU0 : Hid (Sole w1.heap.size w3 u0) := Lib.hid (by rw [HU0.out]; exact ((Sole.refl w1.heap.size w3)).drewN 1)
  have hzu0 : u0.heap.size = w3.heap.size := by rw [HU0.out]; simp []
  have hcv0 := conv_bytes c2.s u0
  have HBV0 := Lib.hid (conv_below c2.s u0)
  have HRV0 := Lib.hid (conv_rd c2.s u0)
  obtain ⟨wv0, HWV0⟩ : ∃ wv, H.Shut (wv = Lib.bytesWorld u0 5 c2.s) := ⟨_, ⟨rfl⟩⟩
  obtain ⟨cap0, HCAP0⟩ : ∃ cap, H.Shut (cap = grownCap u0 c2.s.size 0 5) := ⟨_, ⟨rfl⟩⟩
  rw [← HWV0.out] at hcv0 HBV0 HRV0
  rw [← HCAP0.out] at hcv0
  rw [hzu0] at hcv0 HBV0 HRV0
  have HZU0 := Lib.hid hzu0
  clear hzu0
  rw [HU0.out] at hcv0
  have HRW0 : Hid (Row wv0 w1.heap.size 25 (kindC 1)) := Lib.hid (HRU0.out.below HBV0.out hg3)
  have dv00 : wv0.cell? ⟨b, o + 2, none⟩ = some (.string c0.s) := (HBV0.out.cell (p := ⟨b, o + 2, none⟩) (by show b < _; omega)).trans ((HSU0.out.cell (p := ⟨b, o + 2, none⟩) (by show b < _; omega) (by show b ≠ _; omega)).trans d0)
  have dv01 : wv0.cell? ⟨b, o + 3, none⟩ = some (.int .i64 c1.n) := (HBV0.out.cell (p := ⟨b, o + 3, none⟩) (by show b < _; omega)).trans ((HSU0.out.cell (p := ⟨b, o + 3, none⟩) (by show b < _; omega) (by show b ≠ _; omega)).trans d1)
  have dv02 : wv0.cell? ⟨b, o + 8, none⟩ = some (.string c2.s) := (HBV0.out.cell (p := ⟨b, o + 8, none⟩) (by show b < _; omega)).trans ((HSU0.out.cell (p := ⟨b, o + 8, none⟩) (by show b < _; omega) (by show b ≠ _; omega)).trans d2)
  have rv06 : wv0.cell? ⟨w1.heap.size, 6, none⟩ = some (.string ⟨#[]⟩) := HRW0.out.cell 6
  have zv06 : wv0.frozen? ⟨w1.heap.size, 6, none⟩ = false := HRW0.out.frozen 6
  have rv02 : wv0.cell? ⟨w1.heap.size, 2, none⟩ = some (.int .i64 0) := HRW0.out.cell 2
  have zv02 : wv0.frozen? ⟨w1.heap.size, 2, none⟩ = false := HRW0.out.frozen 2
  have rv09 : wv0.cell? ⟨w1.heap.size, 9, none⟩ = some (.slice none 0 0) := HRW0.out.cell 9
  have zv09 : wv0.frozen? ⟨w1.heap.size, 9, none⟩ = false := HRW0.out.frozen 9
  obtain ⟨u1, HU1⟩ : ∃ u, H.Shut (u = (w3.setCell ⟨w1.heap.size, 6, none⟩ (.string c0.s)).drew) := ⟨_, ⟨rfl⟩⟩
  have HRU1 : Hid (Row u1 w1.heap.size 25 ((kindC 1).set 6 (.string c0.s))) := Lib.hid (by rw [HU1.out]; exact row_drew ((HR3.out).set 6 _))
  have HSU1 : Hid (Sole w1.heap.size w3 u1) := Lib.hid (by rw [HU1.out]; exact (((Sole.refl w1.heap.size w3)).setCell 6 _).drewN 1)
  have hzu1 : u1.heap.size = w3.heap.size := by rw [HU1.out]; simp [World.setCell]
  have hcv1 := conv_bytes c2.s u1
  have HBV1 := Lib.hid (conv_below c2.s u1)
  have HRV1 := Lib.hid (conv_rd c2.s u1)
  obtain ⟨wv1, HWV1⟩ : ∃ wv, H.Shut (wv = Lib.bytesWorld u1 5 c2.s) := ⟨_, ⟨rfl⟩⟩
  obtain ⟨cap1, HCAP1⟩ : ∃ cap, H.Shut (cap = grownCap u1 c2.s.size 0 5) := ⟨_, ⟨rfl⟩⟩
  rw [← HWV1.out] at hcv1 HBV1 HRV1
  rw [← HCAP1.out] at hcv1
  rw [hzu1] at hcv1 HBV1 HRV1
  have HZU1 := Lib.hid hzu1
  clear hzu1
  rw [HU1.out] at hcv1
  have HRW1 : Hid (Row wv1 w1.heap.size 25 ((kindC 1).set 6 (.string c0.s))) := Lib.hid (HRU1.out.below HBV1.out hg3)
  have dv10 : wv1.cell? ⟨b, o + 2, none⟩ = some (.string c0.s) := (HBV1.out.cell (p := ⟨b, o + 2, none⟩) (by show b < _; omega)).trans ((HSU1.out.cell (p := ⟨b, o + 2, none⟩) (by show b < _; omega) (by show b ≠ _; omega)).trans d0)
  have dv11 : wv1.cell? ⟨b, o + 3, none⟩ = some (.int .i64 c1.n) := (HBV1.out.cell (p := ⟨b, o + 3, none⟩) (by show b < _; omega)).trans ((HSU1.out.cell (p := ⟨b, o + 3, none⟩) (by show b < _; omega) (by show b ≠ _; omega)).trans d1)
  have dv12 : wv1.cell? ⟨b, o + 8, none⟩ = some (.string c2.s) := (HBV1.out.cell (p := ⟨b, o + 8, none⟩) (by show b < _; omega)).trans ((HSU1.out.cell (p := ⟨b, o + 8, none⟩) (by show b < _; omega) (by show b ≠ _; omega)).trans d2)
  have rv16 : wv1.cell? ⟨w1.heap.size, 6, none⟩ = some (.string c0.s) := HRW1.out.cell 6
  have zv16 : wv1.frozen? ⟨w1.heap.size, 6, none⟩ = false := HRW1.out.frozen 6
  have rv12 : wv1.cell? ⟨w1.heap.size, 2, none⟩ = some (.int .i64 0) := HRW1.out.cell 2
  have zv12 : wv1.frozen? ⟨w1.heap.size, 2, none⟩ = false := HRW1.out.frozen 2
  have rv19 : wv1.cell? ⟨w1.heap.size, 9, none⟩ = some (.slice none 0 0) := HRW1.out.cell 9
  have zv19 : wv1.frozen? ⟨w1.heap.size, 9, none⟩ = false := HRW1.out.frozen 9
  obtain ⟨u2, HU2⟩ : ∃ u, H.Shut (u = ((w3.setCell ⟨w1.heap.size, 6, none⟩ (.string c0.s)).setCell ⟨w1.heap.size, 2, none⟩ (.int .i64 c1.n)).drew) := ⟨_, ⟨rfl⟩⟩
  have HRU2 : Hid (Row u2 w1.heap.size 25 (((kindC 1).set 6 (.string c0.s)).set 2 (.int .i64 c1.n))) := Lib.hid (by rw [HU2.out]; exact row_drew (((HR3.out).set 6 _).set 2 _))
  have HSU2 : Hid (Sole w1.heap.size w3 u2) := Lib.hid (by rw [HU2.out]; exact ((((Sole.refl w1.heap.size w3)).setCell 6 _).setCell 2 _).drewN 1)
  have hzu2 : u2.heap.size = w3.heap.size := by rw [HU2.out]; simp [World.setCell]
  have hcv2 := conv_bytes c2.s u2
  have HBV2 := Lib.hid (conv_below c2.s u2)
  have HRV2 := Lib.hid (conv_rd c2.s u2)
  obtain ⟨wv2, HWV2⟩ : ∃ wv, H.Shut (wv = Lib.bytesWorld u2 5 c2.s) := ⟨_, ⟨rfl⟩⟩
  obtain ⟨cap2, HCAP2⟩ : ∃ cap, H.Shut (cap = grownCap u2 c2.s.size 0 5) := ⟨_, ⟨rfl⟩⟩
  rw [← HWV2.out] at hcv2 HBV2 HRV2
  rw [← HCAP2.out] at hcv2
  rw [hzu2] at hcv2 HBV2 HRV2
  have HZU2 := Lib.hid hzu2
  clear hzu2
  rw [HU2.out] at hcv2
  have HRW2 : Hid (Row wv2 w1.heap.size 25 (((kindC 1).set 6 (.string c0.s)).set 2 (.int .i64 c1.n))) := Lib.hid (HRU2.out.below HBV2.out hg3)
  have dv20 : wv2.cell? ⟨b, o + 2, none⟩ = some (.string c0.s) := (HBV2.out.cell (p := ⟨b, o + 2, none⟩) (by show b < _; omega)).trans ((HSU2.out.cell (p := ⟨b, o + 2, none⟩) (by show b < _; omega) (by show b ≠ _; omega)).trans d0)
  have dv21 : wv2.cell? ⟨b, o + 3, none⟩ = some (.int .i64 c1.n) := (HBV2.out.cell (p := ⟨b, o + 3, none⟩) (by show b < _; omega)).trans ((HSU2.out.cell (p := ⟨b, o + 3, none⟩) (by show b < _; omega) (by show b ≠ _; omega)).trans d1)
  have dv22 : wv2.cell? ⟨b, o + 8, none⟩ = some (.string c2.s) := (HBV2.out.cell (p := ⟨b, o + 8, none⟩) (by show b < _; omega)).trans ((HSU2.out.cell (p := ⟨b, o + 8, none⟩) (by show b < _; omega) (by show b ≠ _; omega)).trans d2)
  have rv26 : wv2.cell? ⟨w1.heap.size, 6, none⟩ = some (.string c0.s) := HRW2.out.cell 6
  have zv26 : wv2.frozen? ⟨w1.heap.size, 6, none⟩ = false := HRW2.out.frozen 6
  have rv22 : wv2.cell? ⟨w1.heap.size, 2, none⟩ = some (.int .i64 c1.n) := HRW2.out.cell 2
  have zv22 : wv2.frozen? ⟨w1.heap.size, 2, none⟩ = false := HRW2.out.frozen 2
  have rv29 : wv2.cell? ⟨w1.heap.size, 9, none⟩ = some (.slice none 0 0) := HRW2.out.cell 9
  have zv29 : wv2.frozen? ⟨w1.heap.size, 9, none⟩ = false := HRW2.out.frozen 9
  go_region
  all_goals first
    | (obtain ⟨w4, HW4⟩ : ∃ w4, H.Shut (w4 = (((wv0.setCell ⟨w1.heap.size, 6, none⟩ (.string c0.s)).setCell ⟨w1.heap.size, 2, none⟩ (.int .i64 c1.n)).setCell ⟨w1.heap.size, 9, none⟩ (.slice (some ⟨w3.heap.size, 0, none⟩) c2.s.size cap0))) := ⟨_, ⟨rfl⟩⟩
       rw [← HW4.out]
       have HR4 : Hid (Row w4 w1.heap.size 25 ((((kindC 1).set 6 (.string c0.s)).set 2 (.int .i64 c1.n)).set 9 (.slice (some ⟨w3.heap.size, 0, none⟩) c2.s.size cap0))) := Lib.hid (by rw [HW4.out]; exact (((HRW0.out).set 6 _).set 2 _).set 9 _)
       have HS4 : Hid (Sole w1.heap.size wv0 w4) := Lib.hid (by rw [HW4.out]; exact ((((Sole.refl w1.heap.size wv0)).setCell 6 _).setCell 2 _).setCell 9 _)
       have HBU : Hid (Below w.heap.size w u0) := Lib.hid (HB03.out.trans (HSU0.out.below (Nat.le_of_lt hz1) (by have := HB03.out.size; omega)))
       have HBW : Hid (Below w.heap.size w wv0) := Lib.hid (HBU.out.trans (HBV0.out.mono (by have := HB03.out.size; omega)))
       have HB04 : Hid (Below w.heap.size w w4) := Lib.hid (HBW.out.trans (HS4.out.below (Nat.le_of_lt hz1) HBW.out.size))
       have HA4 : Hid (Row w4 w.heap.size 25 zeroC) := Lib.hid (HS4.out.row ((HSU0.out.row HA3.out (by omega)).below HBV0.out (by omega)) (by omega))
       have HRV4 : Hid (Rd w4 w4.heap.size (some ⟨w3.heap.size, 0, none⟩) (c2.s.data.toList.map bv)) := Lib.hid (rd_sole HRV0.out HS4.out (by intro e; omega))
       obtain ⟨G, HG⟩ : ∃ G : Fr, H.Shut (G = { zf 1 with who := c0.s, got := c1.n, ba := some ⟨w3.heap.size, 0, none⟩, bc := cap0, bs := c2.s.data.toList }) := ⟨_, ⟨rfl⟩⟩
       have HRF : Hid (Row w4 w1.heap.size 25 (G.cells G.bs.length)) := Lib.hid (by rw [HG.out]; exact HR4.out)
       have HLA : Hid ((Tryd.prog.info? 25).map (·.size) = some (G.cells G.bs.length).length) := Lib.hid size25
       have HGR : Hid (Rd w4 w4.heap.size G.ba (G.bs.map bv)) := Lib.hid (by rw [HG.out]; exact HRV4.out)
       go_wp2_with (first
         | (refine wl_load rfl 25 (.tmp 5) rfl w1.heap.size rfl 25 _ _ HRF.out under25.choose_spec rfl size25 ?_
            intro vq HVQ)
         | (refine wl_store rfl 25 (.tmp 4) (.tmp 168) rfl w.heap.size _ (G.cells G.bs.length) rfl HVQ.out rfl 25 _ HA4.out HLA.out rfl (cells_ok G _) ?_
            intro w8 HR8 HS8 HZ8))
       refine bodyPost_ret (v := G.v) (results_cell_row Tryd.results52 _ w8 w.heap.size 25 _ (0, 0) _ rfl HR8.out under25.choose_spec rfl HLA.out) rfl ?_
       refine ⟨G, rfl, Lib.hid ⟨by rw [HG.out, used_1]; rfl, ?_, HB04.out.trans (HS8.out.below (Nat.le_refl _) HB04.out.size), by rw [HG.out]; exact .inr ⟨_, rfl, by omega⟩⟩⟩
       have hrd : Rd w8 w8.heap.size G.ba (G.bs.map bv) := rd_sole_any HGR.out HS8.out (by rw [HG.out]; intro ad e; injection e with e; rw [← e]; show w3.heap.size ≠ w.heap.size; omega)
       rw [HG.out] at hrd ⊢
       have x0 := HX.out c0 (by simp)
       have x1 := HX.out c1 (by simp)
       have x2 := HX.out c2 (by simp)
       exact { kind := (show i64ok 1 from ⟨by decide, by decide⟩), seq := (show i64ok 0 from ⟨by decide, by decide⟩), got := ⟨x1.1, x1.2.1⟩, stream := (show i64ok 0 from ⟨by decide, by decide⟩), amount := (show i64ok 0 from ⟨by decide, by decide⟩), code := (show i64ok 0 from ⟨by decide, by decide⟩), who := x0.2.2.2, name := Nat.zero_le _, weight := (show 0 < 18446744073709551616 from by decide), cap := by show _ ≤ cap0; rw [HCAP0.out]; exact grownCap_ge _ _ _ _, max := by show cap0 ≤ _; rw [HCAP0.out]; have := grownCap_le_maxLen u0 c2.s.size 0 5 x2.2.2.2; simpa only [maxLen] using this, rd := hrd })
    | (obtain ⟨w4, HW4⟩ : ∃ w4, H.Shut (w4 = ((wv1.setCell ⟨w1.heap.size, 2, none⟩ (.int .i64 c1.n)).setCell ⟨w1.heap.size, 9, none⟩ (.slice (some ⟨w3.heap.size, 0, none⟩) c2.s.size cap1))) := ⟨_, ⟨rfl⟩⟩
       rw [← HW4.out]
       have HR4 : Hid (Row w4 w1.heap.size 25 ((((kindC 1).set 6 (.string c0.s)).set 2 (.int .i64 c1.n)).set 9 (.slice (some ⟨w3.heap.size, 0, none⟩) c2.s.size cap1))) := Lib.hid (by rw [HW4.out]; exact ((HRW1.out).set 2 _).set 9 _)
       have HS4 : Hid (Sole w1.heap.size wv1 w4) := Lib.hid (by rw [HW4.out]; exact (((Sole.refl w1.heap.size wv1)).setCell 2 _).setCell 9 _)
       have HBU : Hid (Below w.heap.size w u1) := Lib.hid (HB03.out.trans (HSU1.out.below (Nat.le_of_lt hz1) (by have := HB03.out.size; omega)))
       have HBW : Hid (Below w.heap.size w wv1) := Lib.hid (HBU.out.trans (HBV1.out.mono (by have := HB03.out.size; omega)))
       have HB04 : Hid (Below w.heap.size w w4) := Lib.hid (HBW.out.trans (HS4.out.below (Nat.le_of_lt hz1) HBW.out.size))
       have HA4 : Hid (Row w4 w.heap.size 25 zeroC) := Lib.hid (HS4.out.row ((HSU1.out.row HA3.out (by omega)).below HBV1.out (by omega)) (by omega))
       have HRV4 : Hid (Rd w4 w4.heap.size (some ⟨w3.heap.size, 0, none⟩) (c2.s.data.toList.map bv)) := Lib.hid (rd_sole HRV1.out HS4.out (by intro e; omega))
       obtain ⟨G, HG⟩ : ∃ G : Fr, H.Shut (G = { zf 1 with who := c0.s, got := c1.n, ba := some ⟨w3.heap.size, 0, none⟩, bc := cap1, bs := c2.s.data.toList }) := ⟨_, ⟨rfl⟩⟩
       have HRF : Hid (Row w4 w1.heap.size 25 (G.cells G.bs.length)) := Lib.hid (by rw [HG.out]; exact HR4.out)
       have HLA : Hid ((Tryd.prog.info? 25).map (·.size) = some (G.cells G.bs.length).length) := Lib.hid size25
       have HGR : Hid (Rd w4 w4.heap.size G.ba (G.bs.map bv)) := Lib.hid (by rw [HG.out]; exact HRV4.out)
       go_wp2_with (first
         | (refine wl_load rfl 25 (.tmp 5) rfl w1.heap.size rfl 25 _ _ HRF.out under25.choose_spec rfl size25 ?_
            intro vq HVQ)
         | (refine wl_store rfl 25 (.tmp 4) (.tmp 168) rfl w.heap.size _ (G.cells G.bs.length) rfl HVQ.out rfl 25 _ HA4.out HLA.out rfl (cells_ok G _) ?_
            intro w8 HR8 HS8 HZ8))
       refine bodyPost_ret (v := G.v) (results_cell_row Tryd.results52 _ w8 w.heap.size 25 _ (0, 0) _ rfl HR8.out under25.choose_spec rfl HLA.out) rfl ?_
       refine ⟨G, rfl, Lib.hid ⟨by rw [HG.out, used_1]; rfl, ?_, HB04.out.trans (HS8.out.below (Nat.le_refl _) HB04.out.size), by rw [HG.out]; exact .inr ⟨_, rfl, by omega⟩⟩⟩
       have hrd : Rd w8 w8.heap.size G.ba (G.bs.map bv) := rd_sole_any HGR.out HS8.out (by rw [HG.out]; intro ad e; injection e with e; rw [← e]; show w3.heap.size ≠ w.heap.size; omega)
       rw [HG.out] at hrd ⊢
       have x0 := HX.out c0 (by simp)
       have x1 := HX.out c1 (by simp)
       have x2 := HX.out c2 (by simp)
       exact { kind := (show i64ok 1 from ⟨by decide, by decide⟩), seq := (show i64ok 0 from ⟨by decide, by decide⟩), got := ⟨x1.1, x1.2.1⟩, stream := (show i64ok 0 from ⟨by decide, by decide⟩), amount := (show i64ok 0 from ⟨by decide, by decide⟩), code := (show i64ok 0 from ⟨by decide, by decide⟩), who := x0.2.2.2, name := Nat.zero_le _, weight := (show 0 < 18446744073709551616 from by decide), cap := by show _ ≤ cap1; rw [HCAP1.out]; exact grownCap_ge _ _ _ _, max := by show cap1 ≤ _; rw [HCAP1.out]; have := grownCap_le_maxLen u1 c2.s.size 0 5 x2.2.2.2; simpa only [maxLen] using this, rd := hrd })
    | (obtain ⟨w4, HW4⟩ : ∃ w4, H.Shut (w4 = (wv2.setCell ⟨w1.heap.size, 9, none⟩ (.slice (some ⟨w3.heap.size, 0, none⟩) c2.s.size cap2))) := ⟨_, ⟨rfl⟩⟩
       rw [← HW4.out]
       have HR4 : Hid (Row w4 w1.heap.size 25 ((((kindC 1).set 6 (.string c0.s)).set 2 (.int .i64 c1.n)).set 9 (.slice (some ⟨w3.heap.size, 0, none⟩) c2.s.size cap2))) := Lib.hid (by rw [HW4.out]; exact (HRW2.out).set 9 _)
       have HS4 : Hid (Sole w1.heap.size wv2 w4) := Lib.hid (by rw [HW4.out]; exact ((Sole.refl w1.heap.size wv2)).setCell 9 _)
       have HBU : Hid (Below w.heap.size w u2) := Lib.hid (HB03.out.trans (HSU2.out.below (Nat.le_of_lt hz1) (by have := HB03.out.size; omega)))
       have HBW : Hid (Below w.heap.size w wv2) := Lib.hid (HBU.out.trans (HBV2.out.mono (by have := HB03.out.size; omega)))
       have HB04 : Hid (Below w.heap.size w w4) := Lib.hid (HBW.out.trans (HS4.out.below (Nat.le_of_lt hz1) HBW.out.size))
       have HA4 : Hid (Row w4 w.heap.size 25 zeroC) := Lib.hid (HS4.out.row ((HSU2.out.row HA3.out (by omega)).below HBV2.out (by omega)) (by omega))
       have HRV4 : Hid (Rd w4 w4.heap.size (some ⟨w3.heap.size, 0, none⟩) (c2.s.data.toList.map bv)) := Lib.hid (rd_sole HRV2.out HS4.out (by intro e; omega))
       obtain ⟨G, HG⟩ : ∃ G : Fr, H.Shut (G = { zf 1 with who := c0.s, got := c1.n, ba := some ⟨w3.heap.size, 0, none⟩, bc := cap2, bs := c2.s.data.toList }) := ⟨_, ⟨rfl⟩⟩
       have HRF : Hid (Row w4 w1.heap.size 25 (G.cells G.bs.length)) := Lib.hid (by rw [HG.out]; exact HR4.out)
       have HLA : Hid ((Tryd.prog.info? 25).map (·.size) = some (G.cells G.bs.length).length) := Lib.hid size25
       have HGR : Hid (Rd w4 w4.heap.size G.ba (G.bs.map bv)) := Lib.hid (by rw [HG.out]; exact HRV4.out)
       go_wp2_with (first
         | (refine wl_load rfl 25 (.tmp 5) rfl w1.heap.size rfl 25 _ _ HRF.out under25.choose_spec rfl size25 ?_
            intro vq HVQ)
         | (refine wl_store rfl 25 (.tmp 4) (.tmp 168) rfl w.heap.size _ (G.cells G.bs.length) rfl HVQ.out rfl 25 _ HA4.out HLA.out rfl (cells_ok G _) ?_
            intro w8 HR8 HS8 HZ8))
       refine bodyPost_ret (v := G.v) (results_cell_row Tryd.results52 _ w8 w.heap.size 25 _ (0, 0) _ rfl HR8.out under25.choose_spec rfl HLA.out) rfl ?_
       refine ⟨G, rfl, Lib.hid ⟨by rw [HG.out, used_1]; rfl, ?_, HB04.out.trans (HS8.out.below (Nat.le_refl _) HB04.out.size), by rw [HG.out]; exact .inr ⟨_, rfl, by omega⟩⟩⟩
       have hrd : Rd w8 w8.heap.size G.ba (G.bs.map bv) := rd_sole_any HGR.out HS8.out (by rw [HG.out]; intro ad e; injection e with e; rw [← e]; show w3.heap.size ≠ w.heap.size; omega)
       rw [HG.out] at hrd ⊢
       have x0 := HX.out c0 (by simp)
       have x1 := HX.out c1 (by simp)
       have x2 := HX.out c2 (by simp)
       exact { kind := (show i64ok 1 from ⟨by decide, by decide⟩), seq := (show i64ok 0 from ⟨by decide, by decide⟩), got := ⟨x1.1, x1.2.1⟩, stream := (show i64ok 0 from ⟨by decide, by decide⟩), amount := (show i64ok 0 from ⟨by decide, by decide⟩), code := (show i64ok 0 from ⟨by decide, by decide⟩), who := x0.2.2.2, name := Nat.zero_le _, weight := (show 0 < 18446744073709551616 from by decide), cap := by show _ ≤ cap2; rw [HCAP2.out]; exact grownCap_ge _ _ _ _, max := by show cap2 ≤ _; rw [HCAP2.out]; have := grownCap_le_maxLen u2 c2.s.size 0 5 x2.2.2.2; simpa only [maxLen] using this, rd := hrd })
set_option maxRecDepth 100000 in
set_option maxHeartbeats 4000000 in
theorem rkind_4 (A : Option Addr) (CC : Nat) (c0 c1 : F.FC) (w : World) (hc : F.CsR w w.heap.size A [c0, c1]) (hx : ∀ x ∈ [c0, c1], F.FC.ok x) : Calls Tryd.prog 52 #[.int .i64 4, .slice A 2 CC] w (RKy 4 [c0, c1] w) := by
  obtain ⟨b, o, rfl, hb, hcl⟩ := csr_at hc (by simp)
  have HCL0 : Hid (w.cell? ⟨b, o, none⟩ = some (.int .i64 c0.n)) := Lib.hid (by have := hcl 0 c0 rfl; simpa using this.1)
  have HCL1 : Hid (w.cell? ⟨b, o + 5, none⟩ = some (.string c1.s)) := Lib.hid (by have := hcl 1 c1 rfl; simpa using this.2.2)
  have HX : Hid (∀ x ∈ [c0, c1], F.FC.ok x) := Lib.hid hx
  clear hc hcl hx
  have HLZ : Hid ((Tryd.prog.info? 25).map (·.size) = some zeroC.length) := Lib.hid size25
  go_enter Tryd.func52, Tryd.ntmps52
  go_wp2_with (first
    | (refine H.wl_allocAt rfl 25 rfl 4 rfl _ _ info25' ?_
       intro w1 HA1 HB1 HZ1
       have hz1 : w.heap.size < w1.heap.size := by rw [HZ1.out]; omega)
    | (refine H.wl_allocAt rfl 25 rfl 5 rfl _ _ info25' ?_
       intro w2 HA2 HB2 HZ2
       have hz2 : w1.heap.size < w2.heap.size := by rw [HZ2.out]; omega)
    | (refine wl_store rfl 25 (.tmp 5) (.tmp 7) rfl w1.heap.size _ (kindC 4) rfl rfl rfl 25 _ HA2.out HLZ.out rfl (kindC_one _) ?_
       intro w3 HR3 HS3 HZ3
       have hb13 : Below w1.heap.size w1 w3 := HB2.out.trans (HS3.out.below (Nat.le_refl _) (by omega))
       have hb03 : Below w.heap.size w w3 := HB1.out.trans (hb13.mono (Nat.le_of_lt hz1))
       have HA3 := Lib.hid (HA1.out.below hb13 hz1)
       have HB03 := Lib.hid hb03
       have hg3 : w1.heap.size < w3.heap.size := by have := HZ3.out; omega
       have hbg : b < w1.heap.size := by omega
       clear hb13 hb03
       have d0 : w3.cell? ⟨b, o, none⟩ = some (.int .i64 c0.n) := (HB03.out.cell (p := ⟨b, o, none⟩) hb).trans HCL0.out
       have d1 : w3.cell? ⟨b, o + 5, none⟩ = some (.string c1.s) := (HB03.out.cell (p := ⟨b, o + 5, none⟩) hb).trans HCL1.out
       have r2 : w3.cell? ⟨w1.heap.size, 2, none⟩ = some (.int .i64 0) := HR3.out.cell 2
       have z2 : w3.frozen? ⟨w1.heap.size, 2, none⟩ = false := HR3.out.frozen 2
       have r9 : w3.cell? ⟨w1.heap.size, 9, none⟩ = some (.slice none 0 0) := HR3.out.cell 9
       have z9 : w3.frozen? ⟨w1.heap.size, 9, none⟩ = false := HR3.out.frozen 9))
  obtain ⟨u0, HU0⟩ : ∃ u, H.Shut (u = w3.drew) := ⟨_, ⟨rfl⟩⟩
  have HRU0 : Hid (Row u0 w1.heap.size 25 (kindC 4)) := Lib.hid (by rw [HU0.out]; exact row_drew (HR3.out))
  have HSU0 : Hid (Sole w1.heap.size w3 u0) := Lib.hid (by rw [HU0.out]; exact ((Sole.refl w1.heap.size w3)).drewN 1)
  have hzu0 : u0.heap.size = w3.heap.size := by rw [HU0.out]; simp []
  have hcv0 := conv_bytes c1.s u0
  have HBV0 := Lib.hid (conv_below c1.s u0)
  have HRV0 := Lib.hid (conv_rd c1.s u0)
  obtain ⟨wv0, HWV0⟩ : ∃ wv, H.Shut (wv = Lib.bytesWorld u0 5 c1.s) := ⟨_, ⟨rfl⟩⟩
  obtain ⟨cap0, HCAP0⟩ : ∃ cap, H.Shut (cap = grownCap u0 c1.s.size 0 5) := ⟨_, ⟨rfl⟩⟩
  rw [← HWV0.out] at hcv0 HBV0 HRV0
  rw [← HCAP0.out] at hcv0
  rw [hzu0] at hcv0 HBV0 HRV0
  have HZU0 := Lib.hid hzu0
  clear hzu0
  rw [HU0.out] at hcv0
  have HRW0 : Hid (Row wv0 w1.heap.size 25 (kindC 4)) := Lib.hid (HRU0.out.below HBV0.out hg3)
  have dv00 : wv0.cell? ⟨b, o, none⟩ = some (.int .i64 c0.n) := (HBV0.out.cell (p := ⟨b, o, none⟩) (by show b < _; omega)).trans ((HSU0.out.cell (p := ⟨b, o, none⟩) (by show b < _; omega) (by show b ≠ _; omega)).trans d0)
  have dv01 : wv0.cell? ⟨b, o + 5, none⟩ = some (.string c1.s) := (HBV0.out.cell (p := ⟨b, o + 5, none⟩) (by show b < _; omega)).trans ((HSU0.out.cell (p := ⟨b, o + 5, none⟩) (by show b < _; omega) (by show b ≠ _; omega)).trans d1)
  have rv02 : wv0.cell? ⟨w1.heap.size, 2, none⟩ = some (.int .i64 0) := HRW0.out.cell 2
  have zv02 : wv0.frozen? ⟨w1.heap.size, 2, none⟩ = false := HRW0.out.frozen 2
  have rv09 : wv0.cell? ⟨w1.heap.size, 9, none⟩ = some (.slice none 0 0) := HRW0.out.cell 9
  have zv09 : wv0.frozen? ⟨w1.heap.size, 9, none⟩ = false := HRW0.out.frozen 9
  obtain ⟨u1, HU1⟩ : ∃ u, H.Shut (u = (w3.setCell ⟨w1.heap.size, 2, none⟩ (.int .i64 c0.n)).drew) := ⟨_, ⟨rfl⟩⟩
  have HRU1 : Hid (Row u1 w1.heap.size 25 ((kindC 4).set 2 (.int .i64 c0.n))) := Lib.hid (by rw [HU1.out]; exact row_drew ((HR3.out).set 2 _))
  have HSU1 : Hid (Sole w1.heap.size w3 u1) := Lib.hid (by rw [HU1.out]; exact (((Sole.refl w1.heap.size w3)).setCell 2 _).drewN 1)
  have hzu1 : u1.heap.size = w3.heap.size := by rw [HU1.out]; simp [World.setCell]
  have hcv1 := conv_bytes c1.s u1
  have HBV1 := Lib.hid (conv_below c1.s u1)
  have HRV1 := Lib.hid (conv_rd c1.s u1)
  obtain ⟨wv1, HWV1⟩ : ∃ wv, H.Shut (wv = Lib.bytesWorld u1 5 c1.s) := ⟨_, ⟨rfl⟩⟩
  obtain ⟨cap1, HCAP1⟩ : ∃ cap, H.Shut (cap = grownCap u1 c1.s.size 0 5) := ⟨_, ⟨rfl⟩⟩
  rw [← HWV1.out] at hcv1 HBV1 HRV1
  rw [← HCAP1.out] at hcv1
  rw [hzu1] at hcv1 HBV1 HRV1
  have HZU1 := Lib.hid hzu1
  clear hzu1
  rw [HU1.out] at hcv1
  have HRW1 : Hid (Row wv1 w1.heap.size 25 ((kindC 4).set 2 (.int .i64 c0.n))) := Lib.hid (HRU1.out.below HBV1.out hg3)
  have dv10 : wv1.cell? ⟨b, o, none⟩ = some (.int .i64 c0.n) := (HBV1.out.cell (p := ⟨b, o, none⟩) (by show b < _; omega)).trans ((HSU1.out.cell (p := ⟨b, o, none⟩) (by show b < _; omega) (by show b ≠ _; omega)).trans d0)
  have dv11 : wv1.cell? ⟨b, o + 5, none⟩ = some (.string c1.s) := (HBV1.out.cell (p := ⟨b, o + 5, none⟩) (by show b < _; omega)).trans ((HSU1.out.cell (p := ⟨b, o + 5, none⟩) (by show b < _; omega) (by show b ≠ _; omega)).trans d1)
  have rv12 : wv1.cell? ⟨w1.heap.size, 2, none⟩ = some (.int .i64 c0.n) := HRW1.out.cell 2
  have zv12 : wv1.frozen? ⟨w1.heap.size, 2, none⟩ = false := HRW1.out.frozen 2
  have rv19 : wv1.cell? ⟨w1.heap.size, 9, none⟩ = some (.slice none 0 0) := HRW1.out.cell 9
  have zv19 : wv1.frozen? ⟨w1.heap.size, 9, none⟩ = false := HRW1.out.frozen 9
  go_region
  all_goals first
    | (obtain ⟨w4, HW4⟩ : ∃ w4, H.Shut (w4 = ((wv0.setCell ⟨w1.heap.size, 2, none⟩ (.int .i64 c0.n)).setCell ⟨w1.heap.size, 9, none⟩ (.slice (some ⟨w3.heap.size, 0, none⟩) c1.s.size cap0))) := ⟨_, ⟨rfl⟩⟩
       rw [← HW4.out]
       have HR4 : Hid (Row w4 w1.heap.size 25 (((kindC 4).set 2 (.int .i64 c0.n)).set 9 (.slice (some ⟨w3.heap.size, 0, none⟩) c1.s.size cap0))) := Lib.hid (by rw [HW4.out]; exact ((HRW0.out).set 2 _).set 9 _)
       have HS4 : Hid (Sole w1.heap.size wv0 w4) := Lib.hid (by rw [HW4.out]; exact (((Sole.refl w1.heap.size wv0)).setCell 2 _).setCell 9 _)
       have HBU : Hid (Below w.heap.size w u0) := Lib.hid (HB03.out.trans (HSU0.out.below (Nat.le_of_lt hz1) (by have := HB03.out.size; omega)))
       have HBW : Hid (Below w.heap.size w wv0) := Lib.hid (HBU.out.trans (HBV0.out.mono (by have := HB03.out.size; omega)))
       have HB04 : Hid (Below w.heap.size w w4) := Lib.hid (HBW.out.trans (HS4.out.below (Nat.le_of_lt hz1) HBW.out.size))
       have HA4 : Hid (Row w4 w.heap.size 25 zeroC) := Lib.hid (HS4.out.row ((HSU0.out.row HA3.out (by omega)).below HBV0.out (by omega)) (by omega))
       have HRV4 : Hid (Rd w4 w4.heap.size (some ⟨w3.heap.size, 0, none⟩) (c1.s.data.toList.map bv)) := Lib.hid (rd_sole HRV0.out HS4.out (by intro e; omega))
       obtain ⟨G, HG⟩ : ∃ G : Fr, H.Shut (G = { zf 4 with got := c0.n, ba := some ⟨w3.heap.size, 0, none⟩, bc := cap0, bs := c1.s.data.toList }) := ⟨_, ⟨rfl⟩⟩
       have HRF : Hid (Row w4 w1.heap.size 25 (G.cells G.bs.length)) := Lib.hid (by rw [HG.out]; exact HR4.out)
       have HLA : Hid ((Tryd.prog.info? 25).map (·.size) = some (G.cells G.bs.length).length) := Lib.hid size25
       have HGR : Hid (Rd w4 w4.heap.size G.ba (G.bs.map bv)) := Lib.hid (by rw [HG.out]; exact HRV4.out)
       go_wp2_with (first
         | (refine wl_load rfl 25 (.tmp 5) rfl w1.heap.size rfl 25 _ _ HRF.out under25.choose_spec rfl size25 ?_
            intro vq HVQ)
         | (refine wl_store rfl 25 (.tmp 4) (.tmp 168) rfl w.heap.size _ (G.cells G.bs.length) rfl HVQ.out rfl 25 _ HA4.out HLA.out rfl (cells_ok G _) ?_
            intro w8 HR8 HS8 HZ8))
       refine bodyPost_ret (v := G.v) (results_cell_row Tryd.results52 _ w8 w.heap.size 25 _ (0, 0) _ rfl HR8.out under25.choose_spec rfl HLA.out) rfl ?_
       refine ⟨G, rfl, Lib.hid ⟨by rw [HG.out, used_4]; rfl, ?_, HB04.out.trans (HS8.out.below (Nat.le_refl _) HB04.out.size), by rw [HG.out]; exact .inr ⟨_, rfl, by omega⟩⟩⟩
       have hrd : Rd w8 w8.heap.size G.ba (G.bs.map bv) := rd_sole_any HGR.out HS8.out (by rw [HG.out]; intro ad e; injection e with e; rw [← e]; show w3.heap.size ≠ w.heap.size; omega)
       rw [HG.out] at hrd ⊢
       have x0 := HX.out c0 (by simp)
       have x1 := HX.out c1 (by simp)
       exact { kind := (show i64ok 4 from ⟨by decide, by decide⟩), seq := (show i64ok 0 from ⟨by decide, by decide⟩), got := ⟨x0.1, x0.2.1⟩, stream := (show i64ok 0 from ⟨by decide, by decide⟩), amount := (show i64ok 0 from ⟨by decide, by decide⟩), code := (show i64ok 0 from ⟨by decide, by decide⟩), who := Nat.zero_le _, name := Nat.zero_le _, weight := (show 0 < 18446744073709551616 from by decide), cap := by show _ ≤ cap0; rw [HCAP0.out]; exact grownCap_ge _ _ _ _, max := by show cap0 ≤ _; rw [HCAP0.out]; have := grownCap_le_maxLen u0 c1.s.size 0 5 x1.2.2.2; simpa only [maxLen] using this, rd := hrd })
    | (obtain ⟨w4, HW4⟩ : ∃ w4, H.Shut (w4 = (wv1.setCell ⟨w1.heap.size, 9, none⟩ (.slice (some ⟨w3.heap.size, 0, none⟩) c1.s.size cap1))) := ⟨_, ⟨rfl⟩⟩
       rw [← HW4.out]
       have HR4 : Hid (Row w4 w1.heap.size 25 (((kindC 4).set 2 (.int .i64 c0.n)).set 9 (.slice (some ⟨w3.heap.size, 0, none⟩) c1.s.size cap1))) := Lib.hid (by rw [HW4.out]; exact (HRW1.out).set 9 _)
       have HS4 : Hid (Sole w1.heap.size wv1 w4) := Lib.hid (by rw [HW4.out]; exact ((Sole.refl w1.heap.size wv1)).setCell 9 _)
       have HBU : Hid (Below w.heap.size w u1) := Lib.hid (HB03.out.trans (HSU1.out.below (Nat.le_of_lt hz1) (by have := HB03.out.size; omega)))
       have HBW : Hid (Below w.heap.size w wv1) := Lib.hid (HBU.out.trans (HBV1.out.mono (by have := HB03.out.size; omega)))
       have HB04 : Hid (Below w.heap.size w w4) := Lib.hid (HBW.out.trans (HS4.out.below (Nat.le_of_lt hz1) HBW.out.size))
       have HA4 : Hid (Row w4 w.heap.size 25 zeroC) := Lib.hid (HS4.out.row ((HSU1.out.row HA3.out (by omega)).below HBV1.out (by omega)) (by omega))
       have HRV4 : Hid (Rd w4 w4.heap.size (some ⟨w3.heap.size, 0, none⟩) (c1.s.data.toList.map bv)) := Lib.hid (rd_sole HRV1.out HS4.out (by intro e; omega))
       obtain ⟨G, HG⟩ : ∃ G : Fr, H.Shut (G = { zf 4 with got := c0.n, ba := some ⟨w3.heap.size, 0, none⟩, bc := cap1, bs := c1.s.data.toList }) := ⟨_, ⟨rfl⟩⟩
       have HRF : Hid (Row w4 w1.heap.size 25 (G.cells G.bs.length)) := Lib.hid (by rw [HG.out]; exact HR4.out)
       have HLA : Hid ((Tryd.prog.info? 25).map (·.size) = some (G.cells G.bs.length).length) := Lib.hid size25
       have HGR : Hid (Rd w4 w4.heap.size G.ba (G.bs.map bv)) := Lib.hid (by rw [HG.out]; exact HRV4.out)
       go_wp2_with (first
         | (refine wl_load rfl 25 (.tmp 5) rfl w1.heap.size rfl 25 _ _ HRF.out under25.choose_spec rfl size25 ?_
            intro vq HVQ)
         | (refine wl_store rfl 25 (.tmp 4) (.tmp 168) rfl w.heap.size _ (G.cells G.bs.length) rfl HVQ.out rfl 25 _ HA4.out HLA.out rfl (cells_ok G _) ?_
            intro w8 HR8 HS8 HZ8))
       refine bodyPost_ret (v := G.v) (results_cell_row Tryd.results52 _ w8 w.heap.size 25 _ (0, 0) _ rfl HR8.out under25.choose_spec rfl HLA.out) rfl ?_
       refine ⟨G, rfl, Lib.hid ⟨by rw [HG.out, used_4]; rfl, ?_, HB04.out.trans (HS8.out.below (Nat.le_refl _) HB04.out.size), by rw [HG.out]; exact .inr ⟨_, rfl, by omega⟩⟩⟩
       have hrd : Rd w8 w8.heap.size G.ba (G.bs.map bv) := rd_sole_any HGR.out HS8.out (by rw [HG.out]; intro ad e; injection e with e; rw [← e]; show w3.heap.size ≠ w.heap.size; omega)
       rw [HG.out] at hrd ⊢
       have x0 := HX.out c0 (by simp)
       have x1 := HX.out c1 (by simp)
       exact { kind := (show i64ok 4 from ⟨by decide, by decide⟩), seq := (show i64ok 0 from ⟨by decide, by decide⟩), got := ⟨x0.1, x0.2.1⟩, stream := (show i64ok 0 from ⟨by decide, by decide⟩), amount := (show i64ok 0 from ⟨by decide, by decide⟩), code := (show i64ok 0 from ⟨by decide, by decide⟩), who := Nat.zero_le _, name := Nat.zero_le _, weight := (show 0 < 18446744073709551616 from by decide), cap := by show _ ≤ cap1; rw [HCAP1.out]; exact grownCap_ge _ _ _ _, max := by show cap1 ≤ _; rw [HCAP1.out]; have := grownCap_le_maxLen u1 c1.s.size 0 5 x1.2.2.2; simpa only [maxLen] using this, rd := hrd })
end Go.Proofs.YtmhfhdbaeijcfaaDoor
