/- What hash.Keyed answers: the keyed sum of the key and all parts' bytes. -/
import Derived.Test.YthfpkefieemiaaaDoorMask
namespace Go.Proofs.YthfpkefieemiaaaDoor
open Go.RowKit

theorem sumV_cells {v : Value} {S : List UInt8} (h : SumV v S) : ∃ M, v = .agg M.toArray ∧ M.length = 74 ∧ (∀ v ∈ M, v.oneCell' = true) ∧ ∀ w g, Row w g 48 M → SumT w g S S.length := by
  obtain ⟨blk, h1, h2, h3⟩ := h
  exact ⟨_, h3, sumCells_length _ _ _ _ h1, sum_one _ _ _ _, fun w g hr => ⟨blk, h1, h2, hr⟩⟩
theorem zero48_length : (List.replicate 8 (Value.int .u32 0) ++ List.replicate 64 (Value.int .u8 0) ++ [Value.int .i64 0, Value.int .u64 0]).length = 74 := rfl

/-- What a value of 32 bytes needs to be stored. -/
theorem dig_facts (S : List UInt8) : ∃ D, Shut (D = (digest S).map bv) ∧ Shut ((Tryd.prog.info? 27).map (·.size) = some D.length ∧ (List.replicate 32 (Value.int .u8 0)).length = D.length ∧ D.length = 32 ∧ ∀ v ∈ D, v.oneCell' = true) := by
  refine ⟨_, ⟨rfl⟩, ⟨?_⟩⟩
  have h1 := digest_len S
  exact ⟨by rw [h1]; exact info_size info27, by rw [h1]; exact List.length_replicate, h1, bytes_one _⟩

theorem masked_36 (pv : Value) (pad : List UInt8) (w : World) (hK : Ktab w) (hp : pad.length = 64) (hv : Hid (pv = .agg (pad.map bv).toArray)) :
    Calls Tryd.prog 29 #[pv, .int .u8 54] w fun e w' => ∃ v, e = .returned v ∧ Hid (SumV v (pad.map (· ^^^ 0x36)) ∧ Below w.heap.size w w') := masked_any pv pad 0x36 w hK hp hv
theorem masked_5c (pv : Value) (pad : List UInt8) (w : World) (hK : Ktab w) (hp : pad.length = 64) (hv : Hid (pv = .agg (pad.map bv).toArray)) :
    Calls Tryd.prog 29 #[pv, .int .u8 92] w fun e w' => ∃ v, e = .returned v ∧ Hid (SumV v (pad.map (· ^^^ 0x5c)) ∧ Below w.heap.size w w') := masked_any pv pad 0x5c w hK hp hv

set_option maxHeartbeats 2000000 in
theorem keyed_any (n c m d : Nat) (A B : Option Addr) (key : List UInt8) (ps : List Part) (w : World) (hK : Ktab w) (hn : key.length = n) (hc : n ≤ c) (hcm : c ≤ 9223372036854775807) (hkT : n < 1152921504606846976) (hr : Rd w w.heap.size A (key.map bv))
    (hm : ps.length = m) (hmax : m ≤ 9223372036854775807) (hT : (flat ps).length < 1152921504606846000) (hp : Parts w w.heap.size B ps) :
    Calls Tryd.prog 19 #[.slice A n c, .slice B m d] w fun e w' => ∃ v, e = .returned v ∧ Hid (v = .agg ((keyed key (flat ps)).map bv).toArray ∧ Below w.heap.size w w') := by
  have h0 := hK.1
  have HK := Lib.hid hK
  have HN := Lib.hid hn
  have HR := Lib.hid hr
  have HM := Lib.hid hm
  have HT := Lib.hid hT
  have HP := Lib.hid hp
  clear hK hn hr hm hT hp
  obtain ⟨P, HPP⟩ : ∃ P, Shut (P = padK key) := ⟨_, ⟨rfl⟩⟩
  have HPL : Hid (P.length = 64) := Lib.hid (by rw [HPP.out]; exact padK_length key)
  have HLP : Shut ((Tryd.prog.info? 45).map (·.size) = some (P.map bv).length ∧ (List.replicate 64 (Value.int .u8 0)).length = (P.map bv).length ∧ ∀ v ∈ P.map bv, v.oneCell' = true) := ⟨by
    rw [List.length_map, HPL.out]
    exact ⟨info_size info45, rfl, bytes_one _⟩⟩
  go_enter Tryd.func19, Tryd.ntmps19
  go_wp2_with (first
    | (refine wl_alloc rfl 27 rfl _ _ info27 ?_
       intro w1 HA1 HB1 HZ1))
  have hs1 : w.heap.size < w1.heap.size := by rw [HZ1.out]; omega
  with_reducible refine (padKey_any n c A key w1 (HK.out.below h0 HB1.out) HN.out hc hcm hkT ((HR.out.below HB1.out).more (Nat.le_of_lt hs1))).mono ?_
  rintro e w2 ⟨vp, rfl, HV2⟩
  have HVP : Hid (vp = .agg (P.map bv).toArray) := Lib.hid (by rw [HPP.out]; exact HV2.out.1)
  have HB2 := Lib.hid (HB1.out.trans (HV2.out.2.mono (Nat.le_of_lt hs1)))
  have HG2 := Lib.hid (HA1.out.below HV2.out.2 hs1)
  have hs2 : w.heap.size < w2.heap.size := HG2.out.lt
  clear HA1 HB1 HZ1 HV2
  go_wp2_with (first
    | (refine wl_alloc rfl 45 rfl _ _ info45 ?_
       intro w3 HA3 HB3 HZ3)
    | (refine wl_store rfl 45 (.tmp 5) (.tmp 10) rfl w2.heap.size _ (P.map bv) rfl HVP.out rfl 45 _ HA3.out HLP.out.1 HLP.out.2.1 HLP.out.2.2 ?_
       intro w4 HR4 HS4 HZ4)
    | (refine wl_load rfl 45 (.tmp 5) rfl w2.heap.size rfl 45 _ _ HR4.out under45 rfl HLP.out.1 ?_
       intro vq HVQ))
  have hz3 : w2.heap.size < w3.heap.size := by rw [HZ3.out]; omega
  have hz4 : w3.heap.size ≤ w4.heap.size := by rw [HZ4.out]; exact Nat.le_refl _
  have HB3' := Lib.hid (HB2.out.trans (HB3.out.mono HB2.out.size))
  have HB4 := Lib.hid (HB3'.out.trans (HS4.out.below (by omega) (by omega)))
  have HG4 := Lib.hid (HS4.out.row (HG2.out.below HB3.out hs2) (by omega))
  generalize hgp : w2.heap.size = gp at *
  clear HA3 HB3 HZ3 HS4 HZ4 HB3' HB2 HG2 hgp
  with_reducible refine (masked_36 vq P w4 (HK.out.below h0 HB4.out) HPL.out HVQ).mono ?_
  rintro e w5 ⟨vs, rfl, HV5⟩
  obtain ⟨M1, hm1, hm2, hm3, hm4⟩ := sumV_cells HV5.out.1
  have HM1 : Shut (vs = .agg M1.toArray ∧ M1.length = 74 ∧ (∀ v ∈ M1, v.oneCell' = true) ∧ (∀ w g, Row w g 48 M1 → SumT w g (P.map (· ^^^ 0x36)) (P.map (· ^^^ 0x36)).length) ∧ (Tryd.prog.info? 48).map (·.size) = some M1.length ∧ (List.replicate 8 (Value.int .u32 0) ++ List.replicate 64 (Value.int .u8 0) ++ [Value.int .i64 0, Value.int .u64 0]).length = M1.length) :=
    ⟨hm1, hm2, hm3, hm4, by rw [hm2]; exact info_size info48, by rw [hm2]; exact zero48_length⟩
  clear hm1 hm2 hm3 hm4
  have hgp4 : gp < w4.heap.size := HR4.out.lt
  have HB5 := Lib.hid (HB4.out.trans (HV5.out.2.mono HB4.out.size))
  have HG5 := Lib.hid (HG4.out.below HV5.out.2 HG4.out.lt)
  have HR5 := Lib.hid (HR4.out.below HV5.out.2 hgp4)
  have hgp5 : gp < w5.heap.size := HR5.out.lt
  clear HV5 HB4 HG4 HR4 HVP
  go_wp2_with (first
    | (refine wl_alloc rfl 48 rfl _ _ info48 ?_
       intro w6 HA6 HB6 HZ6)
    | (refine wl_store rfl 48 (.tmp 6) (.tmp 12) rfl w5.heap.size _ M1 rfl HM1.out.1 rfl 48 _ HA6.out HM1.out.2.2.2.2.1 HM1.out.2.2.2.2.2 HM1.out.2.2.1 ?_
       intro w7 HR7 HS7 HZ7))
  have hz6 : w5.heap.size < w6.heap.size := by rw [HZ6.out]; omega
  have hz7 : w6.heap.size ≤ w7.heap.size := by rw [HZ7.out]; exact Nat.le_refl _
  have HB6' := Lib.hid (HB5.out.trans (HB6.out.mono HB5.out.size))
  have HB7 := Lib.hid (HB6'.out.trans (HS7.out.below (by omega) (by omega)))
  have HG7 := Lib.hid (HS7.out.row (HG5.out.below HB6.out (by omega)) (by omega))
  have HP7 := Lib.hid (HS7.out.row (HR5.out.below HB6.out (by omega)) (by omega))
  have HSM : Shut (SumT w7 w5.heap.size (P.map (· ^^^ 0x36)) (P.map (· ^^^ 0x36)).length) := ⟨HM1.out.2.2.2.1 _ _ HR7.out⟩
  obtain ⟨S1, HS1⟩ : ∃ S1, Shut (S1 = P.map (· ^^^ 0x36)) := ⟨_, ⟨rfl⟩⟩
  have HL1 : Hid (S1.length = 64) := Lib.hid (by rw [HS1.out, List.length_map, HPL.out])
  rw [← HS1.out] at HSM
  generalize hgi : w5.heap.size = gi at *
  clear HA6 HB6 HZ6 HR7 HS7 HZ7 HB6' HB5 HG5 HR5 HM1 hgi
  with_reducible refine (addAll_any gi w.heap.size S1 S1.length m d B ps w7 (HK.out.below h0 HB7.out) (by omega) (by omega) HB7.out.size HM.out hmax (by have := HT.out; have := HL1.out; omega) (HP.out.below HB7.out) HSM.out).mono ?_
  rintro e w8 ⟨rfl, HA8⟩
  have HS8 : Shut (SumT w8 gi (S1 ++ flat ps) (S1 ++ flat ps).length) := ⟨by have h1 := HA8.out.1; rwa [← List.length_append] at h1⟩
  have HG8 := Lib.hid (HA8.out.2.row HG7.out (by omega))
  have HP8 := Lib.hid (HA8.out.2.row HP7.out (by omega))
  have HB8 := Lib.hid (HB7.out.trans (HA8.out.2.below (by omega) HB7.out.size))
  clear HA8 HG7 HP7 HB7 HSM
  go_wp2_with fail
  with_reducible refine (finish_any gi (S1 ++ flat ps) w8 (HK.out.below h0 HB8.out) (by omega) (by rw [List.length_append, HL1.out]; have := HT.out; omega) HS8.out).mono ?_
  rintro e w9 ⟨vd, rfl, HA9⟩
  obtain ⟨D, HD, HLD⟩ := dig_facts (S1 ++ flat ps)
  have HVD : Hid (vd = .agg D.toArray) := Lib.hid (by rw [HD.out]; exact HA9.out.1)
  have HG9 := Lib.hid (HA9.out.2.row HG8.out (by omega))
  have HP9 := Lib.hid (HA9.out.2.row HP8.out (by omega))
  have HB9 := Lib.hid (HB8.out.trans (HA9.out.2.below (by omega) HB8.out.size))
  clear HA9 HG8 HP8 HB8 HS8
  have hgp9 : gp < w9.heap.size := HP9.out.lt
  go_wp2_with (first
    | (refine wl_alloc rfl 27 rfl _ _ info27 ?_
       intro wa HAa HBa HZa)
    | (refine wl_store rfl 27 (.tmp 7) (.tmp 15) rfl w9.heap.size _ D rfl HVD.out rfl 27 _ HAa.out HLD.out.1 HLD.out.2.1 HLD.out.2.2.2 ?_
       intro wb HRb HSb HZb
       have hza : w9.heap.size < wa.heap.size := by rw [HZa.out]; omega
       have hzb : wa.heap.size ≤ wb.heap.size := by rw [HZb.out]; exact Nat.le_refl _
       have HBa' := Lib.hid (HB9.out.trans (HBa.out.mono HB9.out.size))
       have HBb := Lib.hid (HBa'.out.trans (HSb.out.below (by omega) (by omega)))
       have HGb := Lib.hid (HSb.out.row (HG9.out.below HBa.out (by omega)) (by omega))
       have HPb := Lib.hid (HSb.out.row (HP9.out.below HBa.out (by omega)) (by omega)))
    | (refine wl_load rfl 45 (.tmp 5) rfl gp rfl 45 _ _ HPb.out under45 rfl HLP.out.1 ?_
       intro vq2 HVQ2))
  generalize hgd : w9.heap.size = gd at *
  clear HAa HBa HZa HSb HZb HBa' HB9 HG9 HP9 hgd
  with_reducible refine (masked_5c vq2 P wb (HK.out.below h0 HBb.out) HPL.out HVQ2).mono ?_
  rintro e wc ⟨vs2, rfl, HVc⟩
  obtain ⟨M2, hm1, hm2, hm3, hm4⟩ := sumV_cells HVc.out.1
  have HM2 : Shut (vs2 = .agg M2.toArray ∧ M2.length = 74 ∧ (∀ v ∈ M2, v.oneCell' = true) ∧ (∀ w g, Row w g 48 M2 → SumT w g (P.map (· ^^^ 0x5c)) (P.map (· ^^^ 0x5c)).length) ∧ (Tryd.prog.info? 48).map (·.size) = some M2.length ∧ (List.replicate 8 (Value.int .u32 0) ++ List.replicate 64 (Value.int .u8 0) ++ [Value.int .i64 0, Value.int .u64 0]).length = M2.length) :=
    ⟨hm1, hm2, hm3, hm4, by rw [hm2]; exact info_size info48, by rw [hm2]; exact zero48_length⟩
  clear hm1 hm2 hm3 hm4
  have HBc := Lib.hid (HBb.out.trans (HVc.out.2.mono HBb.out.size))
  have HGc := Lib.hid (HGb.out.below HVc.out.2 HGb.out.lt)
  have HDc := Lib.hid (HRb.out.below HVc.out.2 HRb.out.lt)
  have hgdc : gd < wc.heap.size := HDc.out.lt
  have hwc : w.heap.size < wc.heap.size := HGc.out.lt
  clear HVc HBb HGb HRb HPb
  have hsl := fun w' : World => run_all w' 27 32 under27 gd 0
  go_wp2_with (first
    | (refine wl_alloc rfl 48 rfl _ _ info48 ?_
       intro we HAe HBe HZe)
    | (refine wl_store rfl 48 (.tmp 8) (.tmp 17) rfl wc.heap.size _ M2 rfl HM2.out.1 rfl 48 _ HAe.out HM2.out.2.2.2.2.1 HM2.out.2.2.2.2.2 HM2.out.2.2.1 ?_
       intro wf HRf HSf HZf))
  clear hsl
  have hze : wc.heap.size < we.heap.size := by rw [HZe.out]; omega
  have hzf : we.heap.size ≤ wf.heap.size := by rw [HZf.out]; exact Nat.le_refl _
  have HBe' := Lib.hid (HBc.out.trans (HBe.out.mono HBc.out.size))
  have HBf := Lib.hid (HBe'.out.trans (HSf.out.below (by omega) (by omega)))
  have HGf := Lib.hid (HSf.out.row (HGc.out.below HBe.out (by omega)) (by omega))
  have HDf := Lib.hid (HSf.out.row (HDc.out.below HBe.out (by omega)) (by omega))
  have HSO : Shut (SumT wf wc.heap.size (P.map (· ^^^ 0x5c)) (P.map (· ^^^ 0x5c)).length) := ⟨HM2.out.2.2.2.1 _ _ HRf.out⟩
  obtain ⟨S2, HS2⟩ : ∃ S2, Shut (S2 = P.map (· ^^^ 0x5c)) := ⟨_, ⟨rfl⟩⟩
  have HL2 : Hid (S2.length = 64) := Lib.hid (by rw [HS2.out, List.length_map, HPL.out])
  rw [← HS2.out] at HSO
  generalize hgo : wc.heap.size = go at *
  clear HAe HBe HZe HRf HSf HZf HBe' HBc HGc HDc HM2 hgo
  have HDL : Hid ((digest (S1 ++ flat ps)).length = 32) := Lib.hid (digest_length _)
  have HSC : Shut (Src wf go (some ⟨gd, 0, none⟩) (digest (S1 ++ flat ps))) := ⟨⟨by rw [← HD.out]; exact HDf.out.rd _ (by omega), fun _ ad had => by injection had with had; rw [← had]; show gd ≠ go; omega⟩⟩
  with_reducible refine (add_any go S2 S2.length 32 32 _ (digest (S1 ++ flat ps)) wf (HK.out.below h0 HBf.out) (by omega) HDL.out (Nat.le_refl _) (by decide) (by rw [HL2.out]; decide) HSC.out HSO.out).mono ?_
  rintro e wg ⟨rfl, HAg⟩
  have HSg : Shut (SumT wg go (S2 ++ digest (S1 ++ flat ps)) (S2 ++ digest (S1 ++ flat ps)).length) := ⟨by have h1 := HAg.out.1; rw [List.length_append, HDL.out]; exact h1⟩
  have HGg := Lib.hid (HAg.out.2.row HGf.out (by omega))
  have HBg := Lib.hid (HBf.out.trans (HAg.out.2.below (by omega) HBf.out.size))
  clear HAg HGf HBf HSO HSC HDf
  go_wp2_with fail
  with_reducible refine (finish_any go _ wg (HK.out.below h0 HBg.out) (by omega) (by rw [List.length_append, HL2.out, HDL.out]; decide) HSg.out).mono ?_
  rintro e wh ⟨vr, rfl, HAh⟩
  obtain ⟨E, HE, HLE⟩ := dig_facts (S2 ++ digest (S1 ++ flat ps))
  have HVE : Hid (vr = .agg E.toArray) := Lib.hid (by rw [HE.out]; exact HAh.out.1)
  have HGh := Lib.hid (HAh.out.2.row HGg.out (by omega))
  have HBh := Lib.hid (HBg.out.trans (HAh.out.2.below (by omega) HBg.out.size))
  clear HAh HGg HBg HSg
  go_wp2_with (first
    | (refine wl_store rfl 27 (.tmp 4) (.tmp 20) rfl w.heap.size _ E rfl HVE.out rfl 27 _ HGh.out HLE.out.1 HLE.out.2.1 HLE.out.2.2.2 ?_
       intro wi HRi HSi HZi))
  refine bodyPost_ret (v := .agg E.toArray) (results_cell_row Tryd.results19 _ wi w.heap.size 27 _ (0, 0) _ rfl HRi.out under27 rfl (by simpa using HLE.out.1)) rfl ?_
  have hE : Value.agg E.toArray = .agg ((keyed key (flat ps)).map bv).toArray := by
    rw [HE.out, HS1.out, HS2.out, HPP.out]
    rfl
  exact ⟨.agg E.toArray, rfl, Lib.hid (And.intro hE (HBh.out.trans (HSi.out.below (Nat.le_refl _) HBh.out.size)))⟩
end Go.Proofs.YthfpkefieemiaaaDoor
