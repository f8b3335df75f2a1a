/- The document's Kind of the kinds 2, 3, 5, 6, 7, 8, 9. -/
import Derived.Test.YtmhfhdbaeijcfaaDoorRkr
namespace Go.Proofs.YtmhfhdbaeijcfaaDoor
open Go.RowKit
open Go.Proofs.YtmhfhdbaeijcfaaDoor.H
attribute [local go_sem] F.run_store_f64
set_option maxRecDepth 100000 in
set_option maxHeartbeats 4000000 in
theorem rkind_2 (A : Option Addr) (CC : Nat) (c0 : F.FC) (w : World) (hc : F.CsR w w.heap.size A [c0]) (hx : ∀ x ∈ [c0], F.FC.ok x) : Calls Tryd.prog 52 #[.int .i64 2, .slice A 1 CC] w (RKy 2 [c0] w) := by
  obtain ⟨b, o, rfl, hb, hcl⟩ := csr_at hc (by simp)
  have HCL0 : Hid (w.cell? ⟨b, o + 2, none⟩ = some (.string c0.s)) := Lib.hid (by have := hcl 0 c0 rfl; simpa using this.2.2)
  have HX : Hid (∀ x ∈ [c0], F.FC.ok x) := Lib.hid hx
  clear hc hcl hx
  have HLZ : Hid ((Tryd.prog.info? 25).map (·.size) = some zeroC.length) := Lib.hid size25
  go_enter Tryd.func52, Tryd.ntmps52
  go_upto_region 17 with (first
    | (refine H.wl_allocAt rfl 25 rfl 4 rfl _ _ info25' ?_
       intro w1 HA1 HB1 HZ1
       have hz1 : w.heap.size < w1.heap.size := by rw [HZ1.out]; omega)
    | (refine H.wl_allocAt rfl 25 rfl 5 rfl _ _ info25' ?_
       intro w2 HA2 HB2 HZ2
       have hz2 : w1.heap.size < w2.heap.size := by rw [HZ2.out]; omega)
    | (refine wl_store rfl 25 (.tmp 5) (.tmp 7) rfl w1.heap.size _ (kindC 2) rfl rfl rfl 25 _ HA2.out HLZ.out rfl (kindC_one _) ?_
       intro w3 HR3 HS3 HZ3
       have hb13 : Below w1.heap.size w1 w3 := HB2.out.trans (HS3.out.below (Nat.le_refl _) (by omega))
       have hb03 : Below w.heap.size w w3 := HB1.out.trans (hb13.mono (Nat.le_of_lt hz1))
       have HA3 := Lib.hid (HA1.out.below hb13 hz1)
       have HB03 := Lib.hid hb03
       have hg3 : w1.heap.size < w3.heap.size := by have := HZ3.out; omega
       have hbg : b < w1.heap.size := by omega
       clear hb13 hb03
       have d0 : w3.cell? ⟨b, o + 2, none⟩ = some (.string c0.s) := (HB03.out.cell (p := ⟨b, o + 2, none⟩) hb).trans HCL0.out
       have r9 : w3.cell? ⟨w1.heap.size, 9, none⟩ = some (.slice none 0 0) := HR3.out.cell 9
       have z9 : w3.frozen? ⟨w1.heap.size, 9, none⟩ = false := HR3.out.frozen 9))
  have HLD : Hid (Below w1.heap.size w3 w3) := Lib.hid (Below.refl _ _)
  clear HLD
  have hcv := conv_bytes c0.s w3
  have HBV := Lib.hid (conv_below c0.s w3)
  have HRV := Lib.hid (conv_rd c0.s w3)
  have hzv : w3.heap.size = w3.heap.size := rfl
  obtain ⟨wv, HWV⟩ : ∃ wv, H.Shut (wv = Lib.bytesWorld w3 5 c0.s) := ⟨_, ⟨rfl⟩⟩
  obtain ⟨cap, HCAP⟩ : ∃ cap, H.Shut (cap = grownCap w3 c0.s.size 0 5) := ⟨_, ⟨rfl⟩⟩
  rw [← HWV.out] at hcv HBV HRV
  rw [hzv] at hcv HBV HRV
  rw [← HCAP.out] at hcv
  clear hzv
  have HRW : Hid (Row wv w1.heap.size 25 (kindC 2)) := Lib.hid (HR3.out.below HBV.out (by omega))
  have rv9 : wv.cell? ⟨w1.heap.size, 9, none⟩ = some (.slice none 0 0) := HRW.out.cell 9
  have zv9 : wv.frozen? ⟨w1.heap.size, 9, none⟩ = false := HRW.out.frozen 9
  have HR5 : Hid (Row (wv.setCell ⟨w1.heap.size, 9, none⟩ (.slice (some ⟨w3.heap.size, 0, none⟩) c0.s.size cap)) w1.heap.size 25 ((kindC 2).set 9 (.slice (some ⟨w3.heap.size, 0, none⟩) c0.s.size cap))) := Lib.hid (HRW.out.set 9 _)
  have HS5 : Hid (Sole w1.heap.size wv (wv.setCell ⟨w1.heap.size, 9, none⟩ (.slice (some ⟨w3.heap.size, 0, none⟩) c0.s.size cap))) := Lib.hid ((Sole.refl _ _).setCell 9 _)
  have HB5 : Hid (Below w.heap.size w (wv.setCell ⟨w1.heap.size, 9, none⟩ (.slice (some ⟨w3.heap.size, 0, none⟩) c0.s.size cap))) := Lib.hid ((HB03.out.trans (HBV.out.mono HB03.out.size)).trans (HS5.out.below (Nat.le_of_lt hz1) (by have := HB03.out.size; have := HBV.out.size; omega)))
  have HA5 : Hid (Row (wv.setCell ⟨w1.heap.size, 9, none⟩ (.slice (some ⟨w3.heap.size, 0, none⟩) c0.s.size cap)) w.heap.size 25 zeroC) := Lib.hid (HS5.out.row (HA3.out.below HBV.out (by omega)) (by omega))
  have HRV5 : Hid (Rd (wv.setCell ⟨w1.heap.size, 9, none⟩ (.slice (some ⟨w3.heap.size, 0, none⟩) c0.s.size cap)) (wv.setCell ⟨w1.heap.size, 9, none⟩ (.slice (some ⟨w3.heap.size, 0, none⟩) c0.s.size cap)).heap.size (some ⟨w3.heap.size, 0, none⟩) (c0.s.data.toList.map bv)) := Lib.hid (rd_sole HRV.out HS5.out (by intro e; omega))
  obtain ⟨G, HG⟩ : ∃ G : Fr, H.Shut (G = { zf 2 with ba := some ⟨w3.heap.size, 0, none⟩, bc := cap, bs := c0.s.data.toList }) := ⟨_, ⟨rfl⟩⟩
  have HRF : Hid (Row (wv.setCell ⟨w1.heap.size, 9, none⟩ (.slice (some ⟨w3.heap.size, 0, none⟩) c0.s.size cap)) w1.heap.size 25 (G.cells G.bs.length)) := Lib.hid (by rw [HG.out]; exact HR5.out)
  have HLA : Hid ((Tryd.prog.info? 25).map (·.size) = some (G.cells G.bs.length).length) := Lib.hid size25
  have HGR : Hid (Rd (wv.setCell ⟨w1.heap.size, 9, none⟩ (.slice (some ⟨w3.heap.size, 0, none⟩) c0.s.size cap)) (wv.setCell ⟨w1.heap.size, 9, none⟩ (.slice (some ⟨w3.heap.size, 0, none⟩) c0.s.size cap)).heap.size G.ba (G.bs.map bv)) := Lib.hid (by rw [HG.out]; exact HRV5.out)
  go_wp2_with (first
    | (refine wl_load rfl 25 (.tmp 5) rfl w1.heap.size rfl 25 _ _ HRF.out under25.choose_spec rfl size25 ?_
       intro vq HVQ)
    | (refine wl_store rfl 25 (.tmp 4) (.tmp 168) rfl w.heap.size _ (G.cells G.bs.length) rfl HVQ.out rfl 25 _ HA5.out HLA.out rfl (cells_ok G _) ?_
       intro w8 HR8 HS8 HZ8))
  refine bodyPost_ret (v := G.v) (results_cell_row Tryd.results52 _ w8 w.heap.size 25 _ (0, 0) _ rfl HR8.out under25.choose_spec rfl HLA.out) rfl ?_
  refine ⟨G, rfl, Lib.hid ⟨?_, ?_, HB5.out.trans (HS8.out.below (Nat.le_refl _) HB5.out.size), by rw [HG.out]; exact .inr ⟨_, rfl, by omega⟩⟩⟩
  · rw [HG.out, used_2]; rfl
  · have hrd : Rd w8 w8.heap.size G.ba (G.bs.map bv) := rd_sole_any HGR.out HS8.out (by rw [HG.out]; intro ad e; injection e with e; rw [← e]; show w3.heap.size ≠ w.heap.size; omega)
    rw [HG.out] at hrd ⊢
    have x0 := HX.out c0 (by simp)
    exact { kind := (show i64ok 2 from ⟨by decide, by decide⟩), seq := (show i64ok 0 from ⟨by decide, by decide⟩), got := (show i64ok 0 from ⟨by decide, by decide⟩), stream := (show i64ok 0 from ⟨by decide, by decide⟩), amount := (show i64ok 0 from ⟨by decide, by decide⟩), code := (show i64ok 0 from ⟨by decide, by decide⟩), who := Nat.zero_le _, name := Nat.zero_le _, weight := (show 0 < 18446744073709551616 from by decide), cap := by show _ ≤ cap; rw [HCAP.out]; exact grownCap_ge _ _ _ _, max := by show cap ≤ _; rw [HCAP.out]; have := grownCap_le_maxLen (w3) c0.s.size 0 5 x0.2.2.2; simpa only [maxLen] using this, rd := hrd }
set_option maxRecDepth 100000 in
set_option maxHeartbeats 4000000 in
theorem rkind_3 (A : Option Addr) (CC : Nat) (c0 : F.FC) (w : World) (hc : F.CsR w w.heap.size A [c0]) (hx : ∀ x ∈ [c0], F.FC.ok x) : Calls Tryd.prog 52 #[.int .i64 3, .slice A 1 CC] w (RKy 3 [c0] w) := by
  obtain ⟨b, o, rfl, hb, hcl⟩ := csr_at hc (by simp)
  have HCL0 : Hid (w.cell? ⟨b, o + 2, none⟩ = some (.string c0.s)) := Lib.hid (by have := hcl 0 c0 rfl; simpa using this.2.2)
  have HX : Hid (∀ x ∈ [c0], F.FC.ok x) := Lib.hid hx
  clear hc hcl hx
  have HLZ : Hid ((Tryd.prog.info? 25).map (·.size) = some zeroC.length) := Lib.hid size25
  go_enter Tryd.func52, Tryd.ntmps52
  go_upto_region 17 with (first
    | (refine H.wl_allocAt rfl 25 rfl 4 rfl _ _ info25' ?_
       intro w1 HA1 HB1 HZ1
       have hz1 : w.heap.size < w1.heap.size := by rw [HZ1.out]; omega)
    | (refine H.wl_allocAt rfl 25 rfl 5 rfl _ _ info25' ?_
       intro w2 HA2 HB2 HZ2
       have hz2 : w1.heap.size < w2.heap.size := by rw [HZ2.out]; omega)
    | (refine wl_store rfl 25 (.tmp 5) (.tmp 7) rfl w1.heap.size _ (kindC 3) rfl rfl rfl 25 _ HA2.out HLZ.out rfl (kindC_one _) ?_
       intro w3 HR3 HS3 HZ3
       have hb13 : Below w1.heap.size w1 w3 := HB2.out.trans (HS3.out.below (Nat.le_refl _) (by omega))
       have hb03 : Below w.heap.size w w3 := HB1.out.trans (hb13.mono (Nat.le_of_lt hz1))
       have HA3 := Lib.hid (HA1.out.below hb13 hz1)
       have HB03 := Lib.hid hb03
       have hg3 : w1.heap.size < w3.heap.size := by have := HZ3.out; omega
       have hbg : b < w1.heap.size := by omega
       clear hb13 hb03
       have d0 : w3.cell? ⟨b, o + 2, none⟩ = some (.string c0.s) := (HB03.out.cell (p := ⟨b, o + 2, none⟩) hb).trans HCL0.out
       have r9 : w3.cell? ⟨w1.heap.size, 9, none⟩ = some (.slice none 0 0) := HR3.out.cell 9
       have z9 : w3.frozen? ⟨w1.heap.size, 9, none⟩ = false := HR3.out.frozen 9))
  have HLD : Hid (Below w1.heap.size w3 w3) := Lib.hid (Below.refl _ _)
  clear HLD
  have hcv := conv_bytes c0.s w3
  have HBV := Lib.hid (conv_below c0.s w3)
  have HRV := Lib.hid (conv_rd c0.s w3)
  have hzv : w3.heap.size = w3.heap.size := rfl
  obtain ⟨wv, HWV⟩ : ∃ wv, H.Shut (wv = Lib.bytesWorld w3 5 c0.s) := ⟨_, ⟨rfl⟩⟩
  obtain ⟨cap, HCAP⟩ : ∃ cap, H.Shut (cap = grownCap w3 c0.s.size 0 5) := ⟨_, ⟨rfl⟩⟩
  rw [← HWV.out] at hcv HBV HRV
  rw [hzv] at hcv HBV HRV
  rw [← HCAP.out] at hcv
  clear hzv
  have HRW : Hid (Row wv w1.heap.size 25 (kindC 3)) := Lib.hid (HR3.out.below HBV.out (by omega))
  have rv9 : wv.cell? ⟨w1.heap.size, 9, none⟩ = some (.slice none 0 0) := HRW.out.cell 9
  have zv9 : wv.frozen? ⟨w1.heap.size, 9, none⟩ = false := HRW.out.frozen 9
  have HR5 : Hid (Row (wv.setCell ⟨w1.heap.size, 9, none⟩ (.slice (some ⟨w3.heap.size, 0, none⟩) c0.s.size cap)) w1.heap.size 25 ((kindC 3).set 9 (.slice (some ⟨w3.heap.size, 0, none⟩) c0.s.size cap))) := Lib.hid (HRW.out.set 9 _)
  have HS5 : Hid (Sole w1.heap.size wv (wv.setCell ⟨w1.heap.size, 9, none⟩ (.slice (some ⟨w3.heap.size, 0, none⟩) c0.s.size cap))) := Lib.hid ((Sole.refl _ _).setCell 9 _)
  have HB5 : Hid (Below w.heap.size w (wv.setCell ⟨w1.heap.size, 9, none⟩ (.slice (some ⟨w3.heap.size, 0, none⟩) c0.s.size cap))) := Lib.hid ((HB03.out.trans (HBV.out.mono HB03.out.size)).trans (HS5.out.below (Nat.le_of_lt hz1) (by have := HB03.out.size; have := HBV.out.size; omega)))
  have HA5 : Hid (Row (wv.setCell ⟨w1.heap.size, 9, none⟩ (.slice (some ⟨w3.heap.size, 0, none⟩) c0.s.size cap)) w.heap.size 25 zeroC) := Lib.hid (HS5.out.row (HA3.out.below HBV.out (by omega)) (by omega))
  have HRV5 : Hid (Rd (wv.setCell ⟨w1.heap.size, 9, none⟩ (.slice (some ⟨w3.heap.size, 0, none⟩) c0.s.size cap)) (wv.setCell ⟨w1.heap.size, 9, none⟩ (.slice (some ⟨w3.heap.size, 0, none⟩) c0.s.size cap)).heap.size (some ⟨w3.heap.size, 0, none⟩) (c0.s.data.toList.map bv)) := Lib.hid (rd_sole HRV.out HS5.out (by intro e; omega))
  obtain ⟨G, HG⟩ : ∃ G : Fr, H.Shut (G = { zf 3 with ba := some ⟨w3.heap.size, 0, none⟩, bc := cap, bs := c0.s.data.toList }) := ⟨_, ⟨rfl⟩⟩
  have HRF : Hid (Row (wv.setCell ⟨w1.heap.size, 9, none⟩ (.slice (some ⟨w3.heap.size, 0, none⟩) c0.s.size cap)) w1.heap.size 25 (G.cells G.bs.length)) := Lib.hid (by rw [HG.out]; exact HR5.out)
  have HLA : Hid ((Tryd.prog.info? 25).map (·.size) = some (G.cells G.bs.length).length) := Lib.hid size25
  have HGR : Hid (Rd (wv.setCell ⟨w1.heap.size, 9, none⟩ (.slice (some ⟨w3.heap.size, 0, none⟩) c0.s.size cap)) (wv.setCell ⟨w1.heap.size, 9, none⟩ (.slice (some ⟨w3.heap.size, 0, none⟩) c0.s.size cap)).heap.size G.ba (G.bs.map bv)) := Lib.hid (by rw [HG.out]; exact HRV5.out)
  go_wp2_with (first
    | (refine wl_load rfl 25 (.tmp 5) rfl w1.heap.size rfl 25 _ _ HRF.out under25.choose_spec rfl size25 ?_
       intro vq HVQ)
    | (refine wl_store rfl 25 (.tmp 4) (.tmp 168) rfl w.heap.size _ (G.cells G.bs.length) rfl HVQ.out rfl 25 _ HA5.out HLA.out rfl (cells_ok G _) ?_
       intro w8 HR8 HS8 HZ8))
  refine bodyPost_ret (v := G.v) (results_cell_row Tryd.results52 _ w8 w.heap.size 25 _ (0, 0) _ rfl HR8.out under25.choose_spec rfl HLA.out) rfl ?_
  refine ⟨G, rfl, Lib.hid ⟨?_, ?_, HB5.out.trans (HS8.out.below (Nat.le_refl _) HB5.out.size), by rw [HG.out]; exact .inr ⟨_, rfl, by omega⟩⟩⟩
  · rw [HG.out, used_3]; rfl
  · have hrd : Rd w8 w8.heap.size G.ba (G.bs.map bv) := rd_sole_any HGR.out HS8.out (by rw [HG.out]; intro ad e; injection e with e; rw [← e]; show w3.heap.size ≠ w.heap.size; omega)
    rw [HG.out] at hrd ⊢
    have x0 := HX.out c0 (by simp)
    exact { kind := (show i64ok 3 from ⟨by decide, by decide⟩), seq := (show i64ok 0 from ⟨by decide, by decide⟩), got := (show i64ok 0 from ⟨by decide, by decide⟩), stream := (show i64ok 0 from ⟨by decide, by decide⟩), amount := (show i64ok 0 from ⟨by decide, by decide⟩), code := (show i64ok 0 from ⟨by decide, by decide⟩), who := Nat.zero_le _, name := Nat.zero_le _, weight := (show 0 < 18446744073709551616 from by decide), cap := by show _ ≤ cap; rw [HCAP.out]; exact grownCap_ge _ _ _ _, max := by show cap ≤ _; rw [HCAP.out]; have := grownCap_le_maxLen (w3) c0.s.size 0 5 x0.2.2.2; simpa only [maxLen] using this, rd := hrd }
set_option maxRecDepth 100000 in
set_option maxHeartbeats 4000000 in
theorem rkind_5 (A : Option Addr) (CC : Nat) (c0 : F.FC) (w : World) (hc : F.CsR w w.heap.size A [c0]) (hx : ∀ x ∈ [c0], F.FC.ok x) : Calls Tryd.prog 52 #[.int .i64 5, .slice A 1 CC] w (RKy 5 [c0] w) := by
  obtain ⟨b, o, rfl, hb, hcl⟩ := csr_at hc (by simp)
  have HCL0 : Hid (w.cell? ⟨b, o, none⟩ = some (.int .i64 c0.n)) := Lib.hid (by have := hcl 0 c0 rfl; simpa using this.1)
  have HX : Hid (∀ x ∈ [c0], F.FC.ok x) := Lib.hid hx
  clear hc hcl hx
  have HLZ : Hid ((Tryd.prog.info? 25).map (·.size) = some zeroC.length) := Lib.hid size25
  go_enter Tryd.func52, Tryd.ntmps52
  go_upto_region 21 with (first
    | (refine H.wl_allocAt rfl 25 rfl 4 rfl _ _ info25' ?_
       intro w1 HA1 HB1 HZ1
       have hz1 : w.heap.size < w1.heap.size := by rw [HZ1.out]; omega)
    | (refine H.wl_allocAt rfl 25 rfl 5 rfl _ _ info25' ?_
       intro w2 HA2 HB2 HZ2
       have hz2 : w1.heap.size < w2.heap.size := by rw [HZ2.out]; omega)
    | (refine wl_store rfl 25 (.tmp 5) (.tmp 7) rfl w1.heap.size _ (kindC 5) rfl rfl rfl 25 _ HA2.out HLZ.out rfl (kindC_one _) ?_
       intro w3 HR3 HS3 HZ3
       have hb13 : Below w1.heap.size w1 w3 := HB2.out.trans (HS3.out.below (Nat.le_refl _) (by omega))
       have hb03 : Below w.heap.size w w3 := HB1.out.trans (hb13.mono (Nat.le_of_lt hz1))
       have HA3 := Lib.hid (HA1.out.below hb13 hz1)
       have HB03 := Lib.hid hb03
       have hg3 : w1.heap.size < w3.heap.size := by have := HZ3.out; omega
       have hbg : b < w1.heap.size := by omega
       clear hb13 hb03
       have d0 : w3.cell? ⟨b, o, none⟩ = some (.int .i64 c0.n) := (HB03.out.cell (p := ⟨b, o, none⟩) hb).trans HCL0.out
       have r5 : w3.cell? ⟨w1.heap.size, 5, none⟩ = some (.int .i64 0) := HR3.out.cell 5
       have z5 : w3.frozen? ⟨w1.heap.size, 5, none⟩ = false := HR3.out.frozen 5))
  have HLD : Hid (Below w1.heap.size w3 w3) := Lib.hid (Below.refl _ _)
  clear HLD
  have HR5 : Hid (Row (w3.setCell ⟨w1.heap.size, 5, none⟩ (.int .i64 c0.n)) w1.heap.size 25 ((kindC 5).set 5 (.int .i64 c0.n))) := Lib.hid (HR3.out.set 5 _)
  have HS5 : Hid (Sole w1.heap.size w3 (w3.setCell ⟨w1.heap.size, 5, none⟩ (.int .i64 c0.n))) := Lib.hid ((Sole.refl _ _).setCell 5 _)
  have HB5 : Hid (Below w.heap.size w (w3.setCell ⟨w1.heap.size, 5, none⟩ (.int .i64 c0.n))) := Lib.hid (HB03.out.trans (HS5.out.below (Nat.le_of_lt hz1) (by have := HB03.out.size; omega)))
  have HA5 : Hid (Row (w3.setCell ⟨w1.heap.size, 5, none⟩ (.int .i64 c0.n)) w.heap.size 25 zeroC) := Lib.hid (HS5.out.row HA3.out (by omega))
  obtain ⟨G, HG⟩ : ∃ G : Fr, H.Shut (G = { zf 5 with code := c0.n }) := ⟨_, ⟨rfl⟩⟩
  have HRF : Hid (Row (w3.setCell ⟨w1.heap.size, 5, none⟩ (.int .i64 c0.n)) w1.heap.size 25 (G.cells G.bs.length)) := Lib.hid (by rw [HG.out]; exact HR5.out)
  have HLA : Hid ((Tryd.prog.info? 25).map (·.size) = some (G.cells G.bs.length).length) := Lib.hid size25
  have HGR : Hid (Rd (w3.setCell ⟨w1.heap.size, 5, none⟩ (.int .i64 c0.n)) (w3.setCell ⟨w1.heap.size, 5, none⟩ (.int .i64 c0.n)).heap.size G.ba (G.bs.map bv)) := Lib.hid (by rw [HG.out]; exact .inl rfl)
  go_wp2_with (first
    | (refine wl_load rfl 25 (.tmp 5) rfl w1.heap.size rfl 25 _ _ HRF.out under25.choose_spec rfl size25 ?_
       intro vq HVQ)
    | (refine wl_store rfl 25 (.tmp 4) (.tmp 168) rfl w.heap.size _ (G.cells G.bs.length) rfl HVQ.out rfl 25 _ HA5.out HLA.out rfl (cells_ok G _) ?_
       intro w8 HR8 HS8 HZ8))
  refine bodyPost_ret (v := G.v) (results_cell_row Tryd.results52 _ w8 w.heap.size 25 _ (0, 0) _ rfl HR8.out under25.choose_spec rfl HLA.out) rfl ?_
  refine ⟨G, rfl, Lib.hid ⟨?_, ?_, HB5.out.trans (HS8.out.below (Nat.le_refl _) HB5.out.size), by rw [HG.out]; exact .inl rfl⟩⟩
  · rw [HG.out, used_5]; rfl
  · have hrd : Rd w8 w8.heap.size G.ba (G.bs.map bv) := rd_sole_any HGR.out HS8.out (by rw [HG.out]; intro ad e; cases e)
    rw [HG.out] at hrd ⊢
    have x0 := HX.out c0 (by simp)
    exact { kind := (show i64ok 5 from ⟨by decide, by decide⟩), seq := (show i64ok 0 from ⟨by decide, by decide⟩), got := (show i64ok 0 from ⟨by decide, by decide⟩), stream := (show i64ok 0 from ⟨by decide, by decide⟩), amount := (show i64ok 0 from ⟨by decide, by decide⟩), code := ⟨x0.1, x0.2.1⟩, who := Nat.zero_le _, name := Nat.zero_le _, weight := (show 0 < 18446744073709551616 from by decide), cap := Nat.le_refl _, max := (show 0 ≤ 9223372036854775807 from by decide), rd := hrd }
set_option maxRecDepth 100000 in
set_option maxHeartbeats 4000000 in
theorem rkind_6 (A : Option Addr) (CC : Nat) (c0 : F.FC) (w : World) (hc : F.CsR w w.heap.size A [c0]) (hx : ∀ x ∈ [c0], F.FC.ok x) : Calls Tryd.prog 52 #[.int .i64 6, .slice A 1 CC] w (RKy 6 [c0] w) := by
  obtain ⟨b, o, rfl, hb, hcl⟩ := csr_at hc (by simp)
  have HCL0 : Hid (w.cell? ⟨b, o, none⟩ = some (.int .i64 c0.n)) := Lib.hid (by have := hcl 0 c0 rfl; simpa using this.1)
  have HX : Hid (∀ x ∈ [c0], F.FC.ok x) := Lib.hid hx
  clear hc hcl hx
  have HLZ : Hid ((Tryd.prog.info? 25).map (·.size) = some zeroC.length) := Lib.hid size25
  go_enter Tryd.func52, Tryd.ntmps52
  go_upto_region 23 with (first
    | (refine H.wl_allocAt rfl 25 rfl 4 rfl _ _ info25' ?_
       intro w1 HA1 HB1 HZ1
       have hz1 : w.heap.size < w1.heap.size := by rw [HZ1.out]; omega)
    | (refine H.wl_allocAt rfl 25 rfl 5 rfl _ _ info25' ?_
       intro w2 HA2 HB2 HZ2
       have hz2 : w1.heap.size < w2.heap.size := by rw [HZ2.out]; omega)
    | (refine wl_store rfl 25 (.tmp 5) (.tmp 7) rfl w1.heap.size _ (kindC 6) rfl rfl rfl 25 _ HA2.out HLZ.out rfl (kindC_one _) ?_
       intro w3 HR3 HS3 HZ3
       have hb13 : Below w1.heap.size w1 w3 := HB2.out.trans (HS3.out.below (Nat.le_refl _) (by omega))
       have hb03 : Below w.heap.size w w3 := HB1.out.trans (hb13.mono (Nat.le_of_lt hz1))
       have HA3 := Lib.hid (HA1.out.below hb13 hz1)
       have HB03 := Lib.hid hb03
       have hg3 : w1.heap.size < w3.heap.size := by have := HZ3.out; omega
       have hbg : b < w1.heap.size := by omega
       clear hb13 hb03
       have d0 : w3.cell? ⟨b, o, none⟩ = some (.int .i64 c0.n) := (HB03.out.cell (p := ⟨b, o, none⟩) hb).trans HCL0.out
       have r2 : w3.cell? ⟨w1.heap.size, 2, none⟩ = some (.int .i64 0) := HR3.out.cell 2
       have z2 : w3.frozen? ⟨w1.heap.size, 2, none⟩ = false := HR3.out.frozen 2))
  have HLD : Hid (Below w1.heap.size w3 w3) := Lib.hid (Below.refl _ _)
  clear HLD
  have HR5 : Hid (Row (w3.setCell ⟨w1.heap.size, 2, none⟩ (.int .i64 c0.n)) w1.heap.size 25 ((kindC 6).set 2 (.int .i64 c0.n))) := Lib.hid (HR3.out.set 2 _)
  have HS5 : Hid (Sole w1.heap.size w3 (w3.setCell ⟨w1.heap.size, 2, none⟩ (.int .i64 c0.n))) := Lib.hid ((Sole.refl _ _).setCell 2 _)
  have HB5 : Hid (Below w.heap.size w (w3.setCell ⟨w1.heap.size, 2, none⟩ (.int .i64 c0.n))) := Lib.hid (HB03.out.trans (HS5.out.below (Nat.le_of_lt hz1) (by have := HB03.out.size; omega)))
  have HA5 : Hid (Row (w3.setCell ⟨w1.heap.size, 2, none⟩ (.int .i64 c0.n)) w.heap.size 25 zeroC) := Lib.hid (HS5.out.row HA3.out (by omega))
  obtain ⟨G, HG⟩ : ∃ G : Fr, H.Shut (G = { zf 6 with got := c0.n }) := ⟨_, ⟨rfl⟩⟩
  have HRF : Hid (Row (w3.setCell ⟨w1.heap.size, 2, none⟩ (.int .i64 c0.n)) w1.heap.size 25 (G.cells G.bs.length)) := Lib.hid (by rw [HG.out]; exact HR5.out)
  have HLA : Hid ((Tryd.prog.info? 25).map (·.size) = some (G.cells G.bs.length).length) := Lib.hid size25
  have HGR : Hid (Rd (w3.setCell ⟨w1.heap.size, 2, none⟩ (.int .i64 c0.n)) (w3.setCell ⟨w1.heap.size, 2, none⟩ (.int .i64 c0.n)).heap.size G.ba (G.bs.map bv)) := Lib.hid (by rw [HG.out]; exact .inl rfl)
  go_wp2_with (first
    | (refine wl_load rfl 25 (.tmp 5) rfl w1.heap.size rfl 25 _ _ HRF.out under25.choose_spec rfl size25 ?_
       intro vq HVQ)
    | (refine wl_store rfl 25 (.tmp 4) (.tmp 168) rfl w.heap.size _ (G.cells G.bs.length) rfl HVQ.out rfl 25 _ HA5.out HLA.out rfl (cells_ok G _) ?_
       intro w8 HR8 HS8 HZ8))
  refine bodyPost_ret (v := G.v) (results_cell_row Tryd.results52 _ w8 w.heap.size 25 _ (0, 0) _ rfl HR8.out under25.choose_spec rfl HLA.out) rfl ?_
  refine ⟨G, rfl, Lib.hid ⟨?_, ?_, HB5.out.trans (HS8.out.below (Nat.le_refl _) HB5.out.size), by rw [HG.out]; exact .inl rfl⟩⟩
  · rw [HG.out, used_6]; rfl
  · have hrd : Rd w8 w8.heap.size G.ba (G.bs.map bv) := rd_sole_any HGR.out HS8.out (by rw [HG.out]; intro ad e; cases e)
    rw [HG.out] at hrd ⊢
    have x0 := HX.out c0 (by simp)
    exact { kind := (show i64ok 6 from ⟨by decide, by decide⟩), seq := (show i64ok 0 from ⟨by decide, by decide⟩), got := ⟨x0.1, x0.2.1⟩, stream := (show i64ok 0 from ⟨by decide, by decide⟩), amount := (show i64ok 0 from ⟨by decide, by decide⟩), code := (show i64ok 0 from ⟨by decide, by decide⟩), who := Nat.zero_le _, name := Nat.zero_le _, weight := (show 0 < 18446744073709551616 from by decide), cap := Nat.le_refl _, max := (show 0 ≤ 9223372036854775807 from by decide), rd := hrd }
set_option maxRecDepth 100000 in
set_option maxHeartbeats 4000000 in
theorem rkind_7 (A : Option Addr) (CC : Nat) (c0 c1 c2 : F.FC) (w : World) (hc : F.CsR w w.heap.size A [c0, c1, c2]) (hx : ∀ x ∈ [c0, c1, c2], F.FC.ok x) : Calls Tryd.prog 52 #[.int .i64 7, .slice A 3 CC] w (RKy 7 [c0, c1, c2] w) := by
  obtain ⟨b, o, rfl, hb, hcl⟩ := csr_at hc (by simp)
  have HCL0 : Hid (w.cell? ⟨b, o, none⟩ = some (.int .i64 c0.n)) := Lib.hid (by have := hcl 0 c0 rfl; simpa using this.1)
  have HCL1 : Hid (w.cell? ⟨b, o + 3, none⟩ = some (.int .i64 c1.n)) := Lib.hid (by have := hcl 1 c1 rfl; simpa using this.1)
  have HCL2 : Hid (w.cell? ⟨b, o + 8, none⟩ = some (.string c2.s)) := Lib.hid (by have := hcl 2 c2 rfl; simpa using this.2.2)
  have HX : Hid (∀ x ∈ [c0, c1, c2], F.FC.ok x) := Lib.hid hx
  clear hc hcl hx
  have HLZ : Hid ((Tryd.prog.info? 25).map (·.size) = some zeroC.length) := Lib.hid size25
  go_enter Tryd.func52, Tryd.ntmps52
  go_wp2_with (first
    | (refine H.wl_allocAt rfl 25 rfl 4 rfl _ _ info25' ?_
       intro w1 HA1 HB1 HZ1
       have hz1 : w.heap.size < w1.heap.size := by rw [HZ1.out]; omega)
    | (refine H.wl_allocAt rfl 25 rfl 5 rfl _ _ info25' ?_
       intro w2 HA2 HB2 HZ2
       have hz2 : w1.heap.size < w2.heap.size := by rw [HZ2.out]; omega)
    | (refine wl_store rfl 25 (.tmp 5) (.tmp 7) rfl w1.heap.size _ (kindC 7) rfl rfl rfl 25 _ HA2.out HLZ.out rfl (kindC_one _) ?_
       intro w3 HR3 HS3 HZ3
       have hb13 : Below w1.heap.size w1 w3 := HB2.out.trans (HS3.out.below (Nat.le_refl _) (by omega))
       have hb03 : Below w.heap.size w w3 := HB1.out.trans (hb13.mono (Nat.le_of_lt hz1))
       have HA3 := Lib.hid (HA1.out.below hb13 hz1)
       have HB03 := Lib.hid hb03
       have hg3 : w1.heap.size < w3.heap.size := by have := HZ3.out; omega
       have hbg : b < w1.heap.size := by omega
       clear hb13 hb03
       have d0 : w3.cell? ⟨b, o, none⟩ = some (.int .i64 c0.n) := (HB03.out.cell (p := ⟨b, o, none⟩) hb).trans HCL0.out
       have d1 : w3.cell? ⟨b, o + 3, none⟩ = some (.int .i64 c1.n) := (HB03.out.cell (p := ⟨b, o + 3, none⟩) hb).trans HCL1.out
       have d2 : w3.cell? ⟨b, o + 8, none⟩ = some (.string c2.s) := (HB03.out.cell (p := ⟨b, o + 8, none⟩) hb).trans HCL2.out
       have r1 : w3.cell? ⟨w1.heap.size, 1, none⟩ = some (.int .i64 0) := HR3.out.cell 1
       have z1 : w3.frozen? ⟨w1.heap.size, 1, none⟩ = false := HR3.out.frozen 1
       have r3 : w3.cell? ⟨w1.heap.size, 3, none⟩ = some (.int .i64 0) := HR3.out.cell 3
       have z3 : w3.frozen? ⟨w1.heap.size, 3, none⟩ = false := HR3.out.frozen 3
       have r7 : w3.cell? ⟨w1.heap.size, 7, none⟩ = some (.string ⟨#[]⟩) := HR3.out.cell 7
       have z7 : w3.frozen? ⟨w1.heap.size, 7, none⟩ = false := HR3.out.frozen 7))
  have HLD : Hid (Below w1.heap.size w3 w3) := Lib.hid (Below.refl _ _)
  clear HLD
  go_region
  obtain ⟨w4, HW4⟩ : ∃ w4, H.Shut (w4 = ((w3.setCell ⟨w1.heap.size, 1, none⟩ (.int .i64 c0.n)).setCell ⟨w1.heap.size, 3, none⟩ (.int .i64 c1.n)).drew) := ⟨_, ⟨rfl⟩⟩
  rw [← HW4.out]
  have HR4 : Hid (Row w4 w1.heap.size 25 (((kindC 7).set 1 (.int .i64 c0.n)).set 3 (.int .i64 c1.n))) := Lib.hid (by rw [HW4.out]; exact row_drew (((HR3.out).set 1 _).set 3 _))
  have HS4 : Hid (Sole w1.heap.size w3 w4) := Lib.hid (by rw [HW4.out]; exact ((((Sole.refl w1.heap.size w3)).setCell 1 _).setCell 3 _).drewN 1)
  have HB04 : Hid (Below w.heap.size w w4) := Lib.hid (HB03.out.trans (HS4.out.below (Nat.le_of_lt hz1) (by have := HB03.out.size; omega)))
  have HA4 : Hid (Row w4 w.heap.size 25 zeroC) := Lib.hid (HS4.out.row HA3.out (by omega))
  have e0 : w4.cell? ⟨b, o, none⟩ = some (.int .i64 c0.n) := (HS4.out.cell (p := ⟨b, o, none⟩) (by show b < _; omega) (by show b ≠ _; omega)).trans d0
  have e1 : w4.cell? ⟨b, o + 3, none⟩ = some (.int .i64 c1.n) := (HS4.out.cell (p := ⟨b, o + 3, none⟩) (by show b < _; omega) (by show b ≠ _; omega)).trans d1
  have e2 : w4.cell? ⟨b, o + 8, none⟩ = some (.string c2.s) := (HS4.out.cell (p := ⟨b, o + 8, none⟩) (by show b < _; omega) (by show b ≠ _; omega)).trans d2
  have s7 : w4.cell? ⟨w1.heap.size, 7, none⟩ = some (.string ⟨#[]⟩) := HR4.out.cell 7
  have y7 : w4.frozen? ⟨w1.heap.size, 7, none⟩ = false := HR4.out.frozen 7
  have HR5 : Hid (Row (w4.setCell ⟨w1.heap.size, 7, none⟩ (.string c2.s)) w1.heap.size 25 ((((kindC 7).set 1 (.int .i64 c0.n)).set 3 (.int .i64 c1.n)).set 7 (.string c2.s))) := Lib.hid (HR4.out.set 7 _)
  have HS5 : Hid (Sole w1.heap.size w4 (w4.setCell ⟨w1.heap.size, 7, none⟩ (.string c2.s))) := Lib.hid ((Sole.refl _ _).setCell 7 _)
  have HB5 : Hid (Below w.heap.size w (w4.setCell ⟨w1.heap.size, 7, none⟩ (.string c2.s))) := Lib.hid (HB04.out.trans (HS5.out.below (Nat.le_of_lt hz1) (by have := HB04.out.size; omega)))
  have HA5 : Hid (Row (w4.setCell ⟨w1.heap.size, 7, none⟩ (.string c2.s)) w.heap.size 25 zeroC) := Lib.hid (HS5.out.row HA4.out (by omega))
  obtain ⟨G, HG⟩ : ∃ G : Fr, H.Shut (G = { zf 7 with seq := c0.n, stream := c1.n, name := c2.s }) := ⟨_, ⟨rfl⟩⟩
  have HRF : Hid (Row (w4.setCell ⟨w1.heap.size, 7, none⟩ (.string c2.s)) w1.heap.size 25 (G.cells G.bs.length)) := Lib.hid (by rw [HG.out]; exact HR5.out)
  have HLA : Hid ((Tryd.prog.info? 25).map (·.size) = some (G.cells G.bs.length).length) := Lib.hid size25
  have HGR : Hid (Rd (w4.setCell ⟨w1.heap.size, 7, none⟩ (.string c2.s)) (w4.setCell ⟨w1.heap.size, 7, none⟩ (.string c2.s)).heap.size G.ba (G.bs.map bv)) := Lib.hid (by rw [HG.out]; exact .inl rfl)
  go_wp2_with (first
    | (refine wl_load rfl 25 (.tmp 5) rfl w1.heap.size rfl 25 _ _ HRF.out under25.choose_spec rfl size25 ?_
       intro vq HVQ)
    | (refine wl_store rfl 25 (.tmp 4) (.tmp 168) rfl w.heap.size _ (G.cells G.bs.length) rfl HVQ.out rfl 25 _ HA5.out HLA.out rfl (cells_ok G _) ?_
       intro w8 HR8 HS8 HZ8))
  refine bodyPost_ret (v := G.v) (results_cell_row Tryd.results52 _ w8 w.heap.size 25 _ (0, 0) _ rfl HR8.out under25.choose_spec rfl HLA.out) rfl ?_
  refine ⟨G, rfl, Lib.hid ⟨?_, ?_, HB5.out.trans (HS8.out.below (Nat.le_refl _) HB5.out.size), by rw [HG.out]; exact .inl rfl⟩⟩
  · rw [HG.out, used_7]; rfl
  · have hrd : Rd w8 w8.heap.size G.ba (G.bs.map bv) := rd_sole_any HGR.out HS8.out (by rw [HG.out]; intro ad e; cases e)
    rw [HG.out] at hrd ⊢
    have x0 := HX.out c0 (by simp)
    have x1 := HX.out c1 (by simp)
    have x2 := HX.out c2 (by simp)
    exact { kind := (show i64ok 7 from ⟨by decide, by decide⟩), seq := ⟨x0.1, x0.2.1⟩, got := (show i64ok 0 from ⟨by decide, by decide⟩), stream := ⟨x1.1, x1.2.1⟩, amount := (show i64ok 0 from ⟨by decide, by decide⟩), code := (show i64ok 0 from ⟨by decide, by decide⟩), who := Nat.zero_le _, name := x2.2.2.2, weight := (show 0 < 18446744073709551616 from by decide), cap := Nat.le_refl _, max := (show 0 ≤ 9223372036854775807 from by decide), rd := hrd }
set_option maxRecDepth 100000 in
set_option maxHeartbeats 4000000 in
theorem rkind_8 (A : Option Addr) (CC : Nat) (c0 c1 : F.FC) (w : World) (hc : F.CsR w w.heap.size A [c0, c1]) (hx : ∀ x ∈ [c0, c1], F.FC.ok x) : Calls Tryd.prog 52 #[.int .i64 8, .slice A 2 CC] w (RKy 8 [c0, c1] w) := by
  obtain ⟨b, o, rfl, hb, hcl⟩ := csr_at hc (by simp)
  have HCL0 : Hid (w.cell? ⟨b, o, none⟩ = some (.int .i64 c0.n)) := Lib.hid (by have := hcl 0 c0 rfl; simpa using this.1)
  have HCL1 : Hid (w.cell? ⟨b, o + 3, none⟩ = some (.int .i64 c1.n)) := Lib.hid (by have := hcl 1 c1 rfl; simpa using this.1)
  have HX : Hid (∀ x ∈ [c0, c1], F.FC.ok x) := Lib.hid hx
  clear hc hcl hx
  have HLZ : Hid ((Tryd.prog.info? 25).map (·.size) = some zeroC.length) := Lib.hid size25
  go_enter Tryd.func52, Tryd.ntmps52
  go_wp2_with (first
    | (refine H.wl_allocAt rfl 25 rfl 4 rfl _ _ info25' ?_
       intro w1 HA1 HB1 HZ1
       have hz1 : w.heap.size < w1.heap.size := by rw [HZ1.out]; omega)
    | (refine H.wl_allocAt rfl 25 rfl 5 rfl _ _ info25' ?_
       intro w2 HA2 HB2 HZ2
       have hz2 : w1.heap.size < w2.heap.size := by rw [HZ2.out]; omega)
    | (refine wl_store rfl 25 (.tmp 5) (.tmp 7) rfl w1.heap.size _ (kindC 8) rfl rfl rfl 25 _ HA2.out HLZ.out rfl (kindC_one _) ?_
       intro w3 HR3 HS3 HZ3
       have hb13 : Below w1.heap.size w1 w3 := HB2.out.trans (HS3.out.below (Nat.le_refl _) (by omega))
       have hb03 : Below w.heap.size w w3 := HB1.out.trans (hb13.mono (Nat.le_of_lt hz1))
       have HA3 := Lib.hid (HA1.out.below hb13 hz1)
       have HB03 := Lib.hid hb03
       have hg3 : w1.heap.size < w3.heap.size := by have := HZ3.out; omega
       have hbg : b < w1.heap.size := by omega
       clear hb13 hb03
       have d0 : w3.cell? ⟨b, o, none⟩ = some (.int .i64 c0.n) := (HB03.out.cell (p := ⟨b, o, none⟩) hb).trans HCL0.out
       have d1 : w3.cell? ⟨b, o + 3, none⟩ = some (.int .i64 c1.n) := (HB03.out.cell (p := ⟨b, o + 3, none⟩) hb).trans HCL1.out
       have r1 : w3.cell? ⟨w1.heap.size, 1, none⟩ = some (.int .i64 0) := HR3.out.cell 1
       have z1 : w3.frozen? ⟨w1.heap.size, 1, none⟩ = false := HR3.out.frozen 1
       have r3 : w3.cell? ⟨w1.heap.size, 3, none⟩ = some (.int .i64 0) := HR3.out.cell 3
       have z3 : w3.frozen? ⟨w1.heap.size, 3, none⟩ = false := HR3.out.frozen 3))
  have HLD : Hid (Below w1.heap.size w3 w3) := Lib.hid (Below.refl _ _)
  clear HLD
  go_region
  obtain ⟨w4, HW4⟩ : ∃ w4, H.Shut (w4 = ((w3.setCell ⟨w1.heap.size, 1, none⟩ (.int .i64 c0.n)).setCell ⟨w1.heap.size, 3, none⟩ (.int .i64 c1.n)).drew) := ⟨_, ⟨rfl⟩⟩
  rw [← HW4.out]
  have HR4 : Hid (Row w4 w1.heap.size 25 (((kindC 8).set 1 (.int .i64 c0.n)).set 3 (.int .i64 c1.n))) := Lib.hid (by rw [HW4.out]; exact row_drew (((HR3.out).set 1 _).set 3 _))
  have HS4 : Hid (Sole w1.heap.size w3 w4) := Lib.hid (by rw [HW4.out]; exact ((((Sole.refl w1.heap.size w3)).setCell 1 _).setCell 3 _).drewN 1)
  have HB04 : Hid (Below w.heap.size w w4) := Lib.hid (HB03.out.trans (HS4.out.below (Nat.le_of_lt hz1) (by have := HB03.out.size; omega)))
  have HA4 : Hid (Row w4 w.heap.size 25 zeroC) := Lib.hid (HS4.out.row HA3.out (by omega))
  have e0 : w4.cell? ⟨b, o, none⟩ = some (.int .i64 c0.n) := (HS4.out.cell (p := ⟨b, o, none⟩) (by show b < _; omega) (by show b ≠ _; omega)).trans d0
  have e1 : w4.cell? ⟨b, o + 3, none⟩ = some (.int .i64 c1.n) := (HS4.out.cell (p := ⟨b, o + 3, none⟩) (by show b < _; omega) (by show b ≠ _; omega)).trans d1
  obtain ⟨G, HG⟩ : ∃ G : Fr, H.Shut (G = { zf 8 with seq := c0.n, stream := c1.n }) := ⟨_, ⟨rfl⟩⟩
  have HRF : Hid (Row w4 w1.heap.size 25 (G.cells G.bs.length)) := Lib.hid (by rw [HG.out]; exact HR4.out)
  have HLA : Hid ((Tryd.prog.info? 25).map (·.size) = some (G.cells G.bs.length).length) := Lib.hid size25
  have HGR : Hid (Rd w4 w4.heap.size G.ba (G.bs.map bv)) := Lib.hid (by rw [HG.out]; exact .inl rfl)
  go_wp2_with (first
    | (refine wl_load rfl 25 (.tmp 5) rfl w1.heap.size rfl 25 _ _ HRF.out under25.choose_spec rfl size25 ?_
       intro vq HVQ)
    | (refine wl_store rfl 25 (.tmp 4) (.tmp 168) rfl w.heap.size _ (G.cells G.bs.length) rfl HVQ.out rfl 25 _ HA4.out HLA.out rfl (cells_ok G _) ?_
       intro w8 HR8 HS8 HZ8))
  refine bodyPost_ret (v := G.v) (results_cell_row Tryd.results52 _ w8 w.heap.size 25 _ (0, 0) _ rfl HR8.out under25.choose_spec rfl HLA.out) rfl ?_
  refine ⟨G, rfl, Lib.hid ⟨?_, ?_, HB04.out.trans (HS8.out.below (Nat.le_refl _) HB04.out.size), by rw [HG.out]; exact .inl rfl⟩⟩
  · rw [HG.out, used_8]; rfl
  · have hrd : Rd w8 w8.heap.size G.ba (G.bs.map bv) := rd_sole_any HGR.out HS8.out (by rw [HG.out]; intro ad e; cases e)
    rw [HG.out] at hrd ⊢
    have x0 := HX.out c0 (by simp)
    have x1 := HX.out c1 (by simp)
    exact { kind := (show i64ok 8 from ⟨by decide, by decide⟩), seq := ⟨x0.1, x0.2.1⟩, got := (show i64ok 0 from ⟨by decide, by decide⟩), stream := ⟨x1.1, x1.2.1⟩, amount := (show i64ok 0 from ⟨by decide, by decide⟩), code := (show i64ok 0 from ⟨by decide, by decide⟩), who := Nat.zero_le _, name := Nat.zero_le _, weight := (show 0 < 18446744073709551616 from by decide), cap := Nat.le_refl _, max := (show 0 ≤ 9223372036854775807 from by decide), rd := hrd }
set_option maxRecDepth 100000 in
set_option maxHeartbeats 4000000 in
theorem rkind_9 (A : Option Addr) (CC : Nat) (c0 c1 c2 : F.FC) (w : World) (hc : F.CsR w w.heap.size A [c0, c1, c2]) (hx : ∀ x ∈ [c0, c1, c2], F.FC.ok x) : Calls Tryd.prog 52 #[.int .i64 9, .slice A 3 CC] w (RKy 9 [c0, c1, c2] w) := by
  obtain ⟨b, o, rfl, hb, hcl⟩ := csr_at hc (by simp)
  have HCL0 : Hid (w.cell? ⟨b, o, none⟩ = some (.int .i64 c0.n)) := Lib.hid (by have := hcl 0 c0 rfl; simpa using this.1)
  have HCL1 : Hid (w.cell? ⟨b, o + 3, none⟩ = some (.int .i64 c1.n)) := Lib.hid (by have := hcl 1 c1 rfl; simpa using this.1)
  have HCL2 : Hid (w.cell? ⟨b, o + 8, none⟩ = some (.string c2.s)) := Lib.hid (by have := hcl 2 c2 rfl; simpa using this.2.2)
  have HX : Hid (∀ x ∈ [c0, c1, c2], F.FC.ok x) := Lib.hid hx
  clear hc hcl hx
  have HLZ : Hid ((Tryd.prog.info? 25).map (·.size) = some zeroC.length) := Lib.hid size25
  go_enter Tryd.func52, Tryd.ntmps52
  go_wp2_with (first
    | (refine H.wl_allocAt rfl 25 rfl 4 rfl _ _ info25' ?_
       intro w1 HA1 HB1 HZ1
       have hz1 : w.heap.size < w1.heap.size := by rw [HZ1.out]; omega)
    | (refine H.wl_allocAt rfl 25 rfl 5 rfl _ _ info25' ?_
       intro w2 HA2 HB2 HZ2
       have hz2 : w1.heap.size < w2.heap.size := by rw [HZ2.out]; omega)
    | (refine wl_store rfl 25 (.tmp 5) (.tmp 7) rfl w1.heap.size _ (kindC 9) rfl rfl rfl 25 _ HA2.out HLZ.out rfl (kindC_one _) ?_
       intro w3 HR3 HS3 HZ3
       have hb13 : Below w1.heap.size w1 w3 := HB2.out.trans (HS3.out.below (Nat.le_refl _) (by omega))
       have hb03 : Below w.heap.size w w3 := HB1.out.trans (hb13.mono (Nat.le_of_lt hz1))
       have HA3 := Lib.hid (HA1.out.below hb13 hz1)
       have HB03 := Lib.hid hb03
       have hg3 : w1.heap.size < w3.heap.size := by have := HZ3.out; omega
       have hbg : b < w1.heap.size := by omega
       clear hb13 hb03
       have d0 : w3.cell? ⟨b, o, none⟩ = some (.int .i64 c0.n) := (HB03.out.cell (p := ⟨b, o, none⟩) hb).trans HCL0.out
       have d1 : w3.cell? ⟨b, o + 3, none⟩ = some (.int .i64 c1.n) := (HB03.out.cell (p := ⟨b, o + 3, none⟩) hb).trans HCL1.out
       have d2 : w3.cell? ⟨b, o + 8, none⟩ = some (.string c2.s) := (HB03.out.cell (p := ⟨b, o + 8, none⟩) hb).trans HCL2.out
       have r1 : w3.cell? ⟨w1.heap.size, 1, none⟩ = some (.int .i64 0) := HR3.out.cell 1
       have z1 : w3.frozen? ⟨w1.heap.size, 1, none⟩ = false := HR3.out.frozen 1
       have r3 : w3.cell? ⟨w1.heap.size, 3, none⟩ = some (.int .i64 0) := HR3.out.cell 3
       have z3 : w3.frozen? ⟨w1.heap.size, 3, none⟩ = false := HR3.out.frozen 3
       have r9 : w3.cell? ⟨w1.heap.size, 9, none⟩ = some (.slice none 0 0) := HR3.out.cell 9
       have z9 : w3.frozen? ⟨w1.heap.size, 9, none⟩ = false := HR3.out.frozen 9))
  have HLD : Hid (Below w1.heap.size w3 w3) := Lib.hid (Below.refl _ _)
  clear HLD
  go_region
  obtain ⟨w4, HW4⟩ : ∃ w4, H.Shut (w4 = ((w3.setCell ⟨w1.heap.size, 1, none⟩ (.int .i64 c0.n)).setCell ⟨w1.heap.size, 3, none⟩ (.int .i64 c1.n)).drew) := ⟨_, ⟨rfl⟩⟩
  rw [← HW4.out]
  have HR4 : Hid (Row w4 w1.heap.size 25 (((kindC 9).set 1 (.int .i64 c0.n)).set 3 (.int .i64 c1.n))) := Lib.hid (by rw [HW4.out]; exact row_drew (((HR3.out).set 1 _).set 3 _))
  have HS4 : Hid (Sole w1.heap.size w3 w4) := Lib.hid (by rw [HW4.out]; exact ((((Sole.refl w1.heap.size w3)).setCell 1 _).setCell 3 _).drewN 1)
  have HB04 : Hid (Below w.heap.size w w4) := Lib.hid (HB03.out.trans (HS4.out.below (Nat.le_of_lt hz1) (by have := HB03.out.size; omega)))
  have HA4 : Hid (Row w4 w.heap.size 25 zeroC) := Lib.hid (HS4.out.row HA3.out (by omega))
  have e0 : w4.cell? ⟨b, o, none⟩ = some (.int .i64 c0.n) := (HS4.out.cell (p := ⟨b, o, none⟩) (by show b < _; omega) (by show b ≠ _; omega)).trans d0
  have e1 : w4.cell? ⟨b, o + 3, none⟩ = some (.int .i64 c1.n) := (HS4.out.cell (p := ⟨b, o + 3, none⟩) (by show b < _; omega) (by show b ≠ _; omega)).trans d1
  have e2 : w4.cell? ⟨b, o + 8, none⟩ = some (.string c2.s) := (HS4.out.cell (p := ⟨b, o + 8, none⟩) (by show b < _; omega) (by show b ≠ _; omega)).trans d2
  have s9 : w4.cell? ⟨w1.heap.size, 9, none⟩ = some (.slice none 0 0) := HR4.out.cell 9
  have y9 : w4.frozen? ⟨w1.heap.size, 9, none⟩ = false := HR4.out.frozen 9
  have hcv := conv_bytes c2.s w4
  have HBV := Lib.hid (conv_below c2.s w4)
  have HRV := Lib.hid (conv_rd c2.s w4)
  have hzv : w4.heap.size = w4.heap.size := rfl
  obtain ⟨wv, HWV⟩ : ∃ wv, H.Shut (wv = Lib.bytesWorld w4 5 c2.s) := ⟨_, ⟨rfl⟩⟩
  obtain ⟨cap, HCAP⟩ : ∃ cap, H.Shut (cap = grownCap w4 c2.s.size 0 5) := ⟨_, ⟨rfl⟩⟩
  rw [← HWV.out] at hcv HBV HRV
  rw [hzv] at hcv HBV HRV
  rw [← HCAP.out] at hcv
  clear hzv
  have HRW : Hid (Row wv w1.heap.size 25 (((kindC 9).set 1 (.int .i64 c0.n)).set 3 (.int .i64 c1.n))) := Lib.hid (HR4.out.below HBV.out (by have := HS4.out.size; omega))
  have rv9 : wv.cell? ⟨w1.heap.size, 9, none⟩ = some (.slice none 0 0) := HRW.out.cell 9
  have zv9 : wv.frozen? ⟨w1.heap.size, 9, none⟩ = false := HRW.out.frozen 9
  have HR5 : Hid (Row (wv.setCell ⟨w1.heap.size, 9, none⟩ (.slice (some ⟨w4.heap.size, 0, none⟩) c2.s.size cap)) w1.heap.size 25 ((((kindC 9).set 1 (.int .i64 c0.n)).set 3 (.int .i64 c1.n)).set 9 (.slice (some ⟨w4.heap.size, 0, none⟩) c2.s.size cap))) := Lib.hid (HRW.out.set 9 _)
  have HS5 : Hid (Sole w1.heap.size wv (wv.setCell ⟨w1.heap.size, 9, none⟩ (.slice (some ⟨w4.heap.size, 0, none⟩) c2.s.size cap))) := Lib.hid ((Sole.refl _ _).setCell 9 _)
  have HB5 : Hid (Below w.heap.size w (wv.setCell ⟨w1.heap.size, 9, none⟩ (.slice (some ⟨w4.heap.size, 0, none⟩) c2.s.size cap))) := Lib.hid ((HB04.out.trans (HBV.out.mono HB04.out.size)).trans (HS5.out.below (Nat.le_of_lt hz1) (by have := HB04.out.size; have := HBV.out.size; omega)))
  have HA5 : Hid (Row (wv.setCell ⟨w1.heap.size, 9, none⟩ (.slice (some ⟨w4.heap.size, 0, none⟩) c2.s.size cap)) w.heap.size 25 zeroC) := Lib.hid (HS5.out.row (HA4.out.below HBV.out (by have := HS4.out.size; omega)) (by omega))
  have HRV5 : Hid (Rd (wv.setCell ⟨w1.heap.size, 9, none⟩ (.slice (some ⟨w4.heap.size, 0, none⟩) c2.s.size cap)) (wv.setCell ⟨w1.heap.size, 9, none⟩ (.slice (some ⟨w4.heap.size, 0, none⟩) c2.s.size cap)).heap.size (some ⟨w4.heap.size, 0, none⟩) (c2.s.data.toList.map bv)) := Lib.hid (rd_sole HRV.out HS5.out (by intro e; have := HS4.out.size; omega))
  obtain ⟨G, HG⟩ : ∃ G : Fr, H.Shut (G = { zf 9 with seq := c0.n, stream := c1.n, ba := some ⟨w4.heap.size, 0, none⟩, bc := cap, bs := c2.s.data.toList }) := ⟨_, ⟨rfl⟩⟩
  have HRF : Hid (Row (wv.setCell ⟨w1.heap.size, 9, none⟩ (.slice (some ⟨w4.heap.size, 0, none⟩) c2.s.size cap)) w1.heap.size 25 (G.cells G.bs.length)) := Lib.hid (by rw [HG.out]; exact HR5.out)
  have HLA : Hid ((Tryd.prog.info? 25).map (·.size) = some (G.cells G.bs.length).length) := Lib.hid size25
  have HGR : Hid (Rd (wv.setCell ⟨w1.heap.size, 9, none⟩ (.slice (some ⟨w4.heap.size, 0, none⟩) c2.s.size cap)) (wv.setCell ⟨w1.heap.size, 9, none⟩ (.slice (some ⟨w4.heap.size, 0, none⟩) c2.s.size cap)).heap.size G.ba (G.bs.map bv)) := Lib.hid (by rw [HG.out]; exact HRV5.out)
  go_wp2_with (first
    | (refine wl_load rfl 25 (.tmp 5) rfl w1.heap.size rfl 25 _ _ HRF.out under25.choose_spec rfl size25 ?_
       intro vq HVQ)
    | (refine wl_store rfl 25 (.tmp 4) (.tmp 168) rfl w.heap.size _ (G.cells G.bs.length) rfl HVQ.out rfl 25 _ HA5.out HLA.out rfl (cells_ok G _) ?_
       intro w8 HR8 HS8 HZ8))
  refine bodyPost_ret (v := G.v) (results_cell_row Tryd.results52 _ w8 w.heap.size 25 _ (0, 0) _ rfl HR8.out under25.choose_spec rfl HLA.out) rfl ?_
  refine ⟨G, rfl, Lib.hid ⟨?_, ?_, HB5.out.trans (HS8.out.below (Nat.le_refl _) HB5.out.size), by rw [HG.out]; exact .inr ⟨_, rfl, HB04.out.size⟩⟩⟩
  · rw [HG.out, used_9]; rfl
  · have hrd : Rd w8 w8.heap.size G.ba (G.bs.map bv) := rd_sole_any HGR.out HS8.out (by rw [HG.out]; intro ad e; injection e with e; rw [← e]; show w4.heap.size ≠ w.heap.size; have := HS4.out.size; omega)
    rw [HG.out] at hrd ⊢
    have x0 := HX.out c0 (by simp)
    have x1 := HX.out c1 (by simp)
    have x2 := HX.out c2 (by simp)
    exact { kind := (show i64ok 9 from ⟨by decide, by decide⟩), seq := ⟨x0.1, x0.2.1⟩, got := (show i64ok 0 from ⟨by decide, by decide⟩), stream := ⟨x1.1, x1.2.1⟩, amount := (show i64ok 0 from ⟨by decide, by decide⟩), code := (show i64ok 0 from ⟨by decide, by decide⟩), who := Nat.zero_le _, name := Nat.zero_le _, weight := (show 0 < 18446744073709551616 from by decide), cap := by show _ ≤ cap; rw [HCAP.out]; exact grownCap_ge _ _ _ _, max := by show cap ≤ _; rw [HCAP.out]; have := grownCap_le_maxLen (w4) c2.s.size 0 5 x2.2.2.2; simpa only [maxLen] using this, rd := hrd }
end Go.Proofs.YtmhfhdbaeijcfaaDoor
