/- The document's InForm of the kinds 12, 13, 14, 15, 16, 17. -/
import Derived.Test.YtmhfhdbaeijcfaaDoorRfr
import Derived.Test.YtmhfhdbaeijcfaaDoorUnb
import Derived.Deep.RegionHeld3
namespace Go.Proofs.YtmhfhdbaeijcfaaDoor
open Go.RowKit
open Go.Proofs.YtmhfhdbaeijcfaaDoor.H
open List (getElem_toArray getElem_cons_succ getElem_cons_zero setIfInBounds_toArray set_cons_zero set_cons_succ)
set_option maxRecDepth 100000 in
set_option maxHeartbeats 8000000 in
theorem rform_12 (f : Fr) (hk : f.kind = 12) : RForm f (valid f) := by
  intro w v hv hf
  obtain ⟨m, HN⟩ : ∃ m, Hid (f.bs.length = m) := ⟨_, rfl⟩
  have HV : Hid (v = .agg (f.cells m).toArray) := Lib.hid (by rw [hv.out, ← HN.out]; rfl)
  have HF := Lib.hid hf
  have HU : Hid (used f.kind = [0, 2, 4]) := Lib.hid (by rw [hk, used_12])
  have HRC : Hid (∀ (w : World) (v : Value), Hid (v = f.v) → f.ok w w.heap.size → Calls Tryd.prog 16 #[v] w fun e w' => ∃ A, e = .returned (.tuple #[.string ⟨#[113, 119, 98]⟩, .slice A 3 3]) ∧ Hid (F.CsR w' w'.heap.size A ((used f.kind).map (cellF f)) ∧ Below w.heap.size w w')) := Lib.hid (fun w v hv hf => by
    have h := rcells_every f w v hv hf
    have e1 : (⟨(layL f.kind).toArray⟩ : ByteArray) = ⟨#[113, 119, 98]⟩ := by rw [hk]; rfl
    have e2 : (used f.kind).length = 3 := by rw [HU.out]; rfl
    rw [e1, e2] at h
    exact h)
  have HRK : Hid (∀ (A : Option Addr) (w : World), F.CsR w w.heap.size A ((used f.kind).map (cellF f)) → Calls Tryd.prog 52 #[.int .i64 12, .slice A 3 3] w (RK 12 ((used f.kind).map (cellF f)) w)) := Lib.hid (fun A w hc => by
    have hw := HF.out.weight
    have h := rkind_every 12 A 3 ((used f.kind).map (cellF f)) w (by rw [used_12]; simp) (by rw [List.length_map, hk]) hc (cells_all_ok HF.out)
    have e2 : (used 12).length = 3 := by rw [used_12]; rfl
    rw [e2] at h
    exact h)
  have HKD := Lib.hid hk
  clear hv hf hk
  go_enter Tryd.func42, Tryd.ntmps42
  go_wp2_with (first
    | (refine wl_box rfl 25 (.tmp 0) rfl (f.cells m) HV.out ?_
       intro w1 HA1 HB1 HZ1
       have hz1 : w.heap.size < w1.heap.size := by rw [HZ1.out]; omega)
    | (refine wl_load rfl 25 (.tmp 1) rfl w.heap.size rfl 25 _ _ HA1.out under25.choose_spec rfl size25 ?_
       intro vp HVP))
  have HVP2 : Hid (vp = f.v) := Lib.hid (by rw [HVP.out, ← HN.out]; rfl)
  have HF1 : Hid (f.ok w1 w1.heap.size) := Lib.hid ((HF.out.below HB1.out).more (Nat.le_of_lt hz1))
  with_reducible refine (HRC.out w1 vp HVP2 HF1.out).mono ?_
  rintro e w2 ⟨A2, rfl, HV2⟩
  have HB2 := Lib.hid (HB1.out.trans (HV2.out.2.mono HB1.out.size))
  have HA2 := Lib.hid (HA1.out.below HV2.out.2 hz1)
  have HF2 : Hid (f.ok w2 w2.heap.size) := Lib.hid ((HF1.out.below HV2.out.2).more HV2.out.2.size)
  have HC2 := Lib.hid HV2.out.1
  have hz2 : w1.heap.size ≤ w2.heap.size := HV2.out.2.size
  clear HV2 HVP HVP2 HA1 HB1 HZ1
  have hg2 : w.heap.size < w2.heap.size := by omega
  have HK0 : Hid ((f.cells m)[0]? = some (.int .i64 12)) := Lib.hid (by rw [← HKD.out]; rfl)
  have HS : Hid (∀ w', Below w2.heap.size w2 w' → w'.cell? ⟨w.heap.size, 0, none⟩ = some (.int .i64 12) ∧ w'.rangeAt w.heap.size 0 (f.cells m)) := Lib.hid (fun w' hb => ⟨((HA2.out.below hb hg2).cell 0).trans HK0.out, (HA2.out.below hb hg2).range (es := []) (by simp)⟩)
  have HZL : Hid ((Tryd.prog.info? 25).map (·.size) = some (f.cells m).length) := Lib.hid size25
  have HBD : Hid (Below w2.heap.size w2 w2.drew) := Lib.hid ((Below.refl _ _).drew)
  go_wp2_with fail
  refine wp_region_held_drew (S := fun w' => w'.cell? ⟨w.heap.size, 0, none⟩ = some (.int .i64 12) ∧ w'.rangeAt w.heap.size 0 (f.cells m)) (by kernel_rfl) (HS.out _ HBD.out) (fun hHeld => ?_)
  refine tke 0 (.string ⟨#[113, 119, 98]⟩) rfl (Or.inl ⟨by kernel_rfl, ?_⟩) ?_
  · (intro w' hSw; (try dsimp only at hSw); go_simp)
  simp only [getElem_toArray, getElem_cons_zero, Act.put, setIfInBounds_toArray, set_cons_zero, set_cons_succ]
  refine tke 1 (.bool false) rfl (Or.inl ⟨by kernel_rfl, ?_⟩) ?_
  · (intro w' hSw; (try dsimp only at hSw); go_simp)
  simp only [getElem_toArray, getElem_cons_succ, getElem_cons_zero, Act.put, setIfInBounds_toArray, set_cons_zero, set_cons_succ]
  refine tke 2 (.bool false) rfl (Or.inl ⟨by kernel_rfl, ?_⟩) ?_
  · (intro w' hSw; (try dsimp only at hSw); go_simp)
  simp only [getElem_toArray, getElem_cons_succ, getElem_cons_zero, Act.put, setIfInBounds_toArray, set_cons_zero, set_cons_succ]
  refine tke 3 (.agg (f.cells m).toArray) rfl (yieldsIf_load_mid (by kernel_rfl) 25 (.tmp 1) rfl w.heap.size 0 rfl (f.cells m) _ (fun w' hSw => hSw.2) under25.choose_spec rfl HZL.out) ?_
  simp only [getElem_toArray, getElem_cons_succ, getElem_cons_zero, Act.put, setIfInBounds_toArray, set_cons_zero, set_cons_succ]
  refine tke 4 (.pointer (some ⟨w.heap.size, 0, none⟩)) rfl (Or.inl ⟨by kernel_rfl, ?_⟩) ?_
  · (intro w' hSw; (try dsimp only at hSw); go_simp)
  simp only [getElem_toArray, getElem_cons_succ, getElem_cons_zero, Act.put, setIfInBounds_toArray, set_cons_zero, set_cons_succ]
  refine tke 5 (.int .i64 12) rfl (Or.inl ⟨by kernel_rfl, ?_⟩) ?_
  · (intro w' hSw; (try dsimp only at hSw); go_simp)
  simp only [getElem_toArray, getElem_cons_succ, getElem_cons_zero, Act.put, setIfInBounds_toArray, set_cons_zero, set_cons_succ]
  refine tke 6 (.slice A2 3 3) rfl (Or.inl ⟨by kernel_rfl, ?_⟩) ?_
  · (intro w' hSw; (try dsimp only at hSw); go_simp)
  simp only [getElem_toArray, getElem_cons_succ, getElem_cons_zero, Act.put, setIfInBounds_toArray, set_cons_zero, set_cons_succ]
  refine wpAnyH_ready (rs := [7]) (by kernel_rfl) (by simp) ?_
  refine AllReadyH.cons rfl (fun K hK => ?_) AllReadyH.nil
  go_simp
  with_reducible refine (HRK.out A2 w2.drew (csr_more (HC2.out.keep HBD.out) HBD.out.size)).mono ?_
  rintro e w3 ⟨G, rfl, HV3⟩
  have HB3 : Hid (Below w2.heap.size w2 w3) := Lib.hid (HBD.out.trans (HV3.out.2.2.mono HBD.out.size))
  have HG3 : Hid (G.ok w3 w3.heap.size) := Lib.hid HV3.out.2.1
  have HGP : Hid (G.pl = selfF f) := Lib.hid (by rw [HV3.out.1, selfF, HKD.out])
  refine hK.out _ _ (HS.out _ HB3.out) (fun hHeld => ?_)
  clear hK K HV3
  (try simp only [getElem_toArray, getElem_cons_succ, getElem_cons_zero, Act.put, setIfInBounds_toArray, set_cons_zero, set_cons_succ])
  refine wpAnyH_ready (rs := [8]) (by kernel_rfl) (by simp) ?_
  refine AllReadyH.cons rfl (fun K hK => ?_) AllReadyH.nil
  go_simp
  have HSM := Lib.hid (rsame_any f G (.agg (f.cells m).toArray) G.v w3 (by rw [← HN.out]; rfl) rfl ((HF2.out.below HB3.out).more HB3.out.size) HG3.out)
  cases hs : sameB f G with
  | false =>
    rw [hs] at HSM
    have HM : Hid (valid f = false) := Lib.hid (by
      rw [Bool.eq_false_iff]
      intro hv
      have h1 := self_valid hv HF.out.weight
      rw [← HGP.out] at h1
      rw [(sameB_iff f G).2 h1] at hs
      cases hs)
    clear hs
    with_reducible refine HSM.out.mono ?_
    rintro e w4 ⟨rfl, HV4⟩
    have HB4 : Hid (Below w2.heap.size w2 w4) := Lib.hid (HB3.out.trans (HV4.out.mono HB3.out.size))
    refine hK.out _ _ (HS.out _ HB4.out) (fun hHeld => ?_)
    clear hK K
    (try simp only [getElem_toArray, getElem_cons_succ, getElem_cons_zero, Act.put, setIfInBounds_toArray, set_cons_zero, set_cons_succ])
    refine tke 9 (.bool true) rfl (Or.inl ⟨by kernel_rfl, ?_⟩) ?_
    · (intro w' hSw; (try dsimp only at hSw); go_simp)
    simp only [getElem_toArray, getElem_cons_succ, getElem_cons_zero, Act.put, setIfInBounds_toArray, set_cons_zero, set_cons_succ]
    refine tke 10 (.bool true) rfl (Or.inl ⟨by kernel_rfl, ?_⟩) ?_
    · (intro w' hSw; (try dsimp only at hSw); go_simp)
    simp only [getElem_toArray, getElem_cons_succ, getElem_cons_zero, Act.put, setIfInBounds_toArray, set_cons_zero, set_cons_succ]
    refine wpAnyH_done (by kernel_rfl) ?_ _
    (try simp only [getElem_toArray, getElem_cons_succ, getElem_cons_zero, Act.put, setIfInBounds_toArray, set_cons_zero, set_cons_succ])
    clear hHeld
    have HBF := Lib.hid (HB2.out.trans (HB4.out.mono HB2.out.size))
    go_wp2_with fail
    go_ret
    exact ⟨by rw [HM.out]; rfl, HBF⟩
  | true =>
    rw [hs] at HSM
    have HM : Hid (valid f = decide ((1 ≤ f.seq ∧ f.seq ≤ 1099511627776) ∧ (1 ≤ f.stream ∧ f.stream ≤ 2147483647) ∧ (0 ≤ f.code ∧ f.code ≤ 13))) := Lib.hid (by
      rw [valid_own (((sameB_iff f G).1 hs).trans HGP.out) (by rw [HU.out]; simp), HU.out, HKD.out, Bool.eq_iff_iff]
      (try rw [← HN.out])
      simp [lo, hi, ext, blo, bhi, wrap64]
      all_goals omega)
    clear hs
    with_reducible refine HSM.out.mono ?_
    rintro e w4 ⟨rfl, HV4⟩
    have HB4 : Hid (Below w2.heap.size w2 w4) := Lib.hid (HB3.out.trans (HV4.out.mono HB3.out.size))
    refine hK.out _ _ (HS.out _ HB4.out) (fun hHeld => ?_)
    clear hK K
    (try simp only [getElem_toArray, getElem_cons_succ, getElem_cons_zero, Act.put, setIfInBounds_toArray, set_cons_zero, set_cons_succ])
    refine tke 9 (.bool false) rfl (Or.inl ⟨by kernel_rfl, ?_⟩) ?_
    · (intro w' hSw; (try dsimp only at hSw); go_simp)
    simp only [getElem_toArray, getElem_cons_succ, getElem_cons_zero, Act.put, setIfInBounds_toArray, set_cons_zero, set_cons_succ]
    refine tke 10 (.bool false) rfl (Or.inl ⟨by kernel_rfl, ?_⟩) ?_
    · (intro w' hSw; (try dsimp only at hSw); go_simp)
    simp only [getElem_toArray, getElem_cons_succ, getElem_cons_zero, Act.put, setIfInBounds_toArray, set_cons_zero, set_cons_succ]
    refine wpAnyH_done (by kernel_rfl) ?_ _
    (try simp only [getElem_toArray, getElem_cons_succ, getElem_cons_zero, Act.put, setIfInBounds_toArray, set_cons_zero, set_cons_succ])
    clear hHeld
    have HBF := Lib.hid (HB2.out.trans (HB4.out.mono HB2.out.size))
    have HA4 := Lib.hid (HA2.out.below HB4.out hg2)
    have k0 : w4.cell? ⟨w.heap.size, 0, none⟩ = some (.int .i64 12) := (HA4.out.cell 0).trans HK0.out
    have k1 : w4.cell? ⟨w.heap.size, 1, none⟩ = some (.int .i64 f.seq) := HA4.out.cell 1
    have k2 : w4.cell? ⟨w.heap.size, 2, none⟩ = some (.int .i64 f.got) := HA4.out.cell 2
    have k3 : w4.cell? ⟨w.heap.size, 3, none⟩ = some (.int .i64 f.stream) := HA4.out.cell 3
    have k4 : w4.cell? ⟨w.heap.size, 4, none⟩ = some (.int .i64 f.amount) := HA4.out.cell 4
    have k5 : w4.cell? ⟨w.heap.size, 5, none⟩ = some (.int .i64 f.code) := HA4.out.cell 5
    have k6 : w4.cell? ⟨w.heap.size, 6, none⟩ = some (.string f.who) := HA4.out.cell 6
    have k7 : w4.cell? ⟨w.heap.size, 7, none⟩ = some (.string f.name) := HA4.out.cell 7
    have k9 : w4.cell? ⟨w.heap.size, 9, none⟩ = some (.slice f.ba m f.bc) := HA4.out.cell 9
    clear HSM HRC HRK HS HBD HZL HC2 HA2 HK0
    go_wp2_with fail
    all_goals
      go_ret
      exact ⟨ret_bool (by rw [HM.out, Bool.eq_iff_iff]; simp; all_goals omega), HBF⟩
set_option maxRecDepth 100000 in
set_option maxHeartbeats 8000000 in
theorem rform_13 (f : Fr) (hk : f.kind = 13) : RForm f (valid f) := by
  intro w v hv hf
  obtain ⟨m, HN⟩ : ∃ m, Hid (f.bs.length = m) := ⟨_, rfl⟩
  have HV : Hid (v = .agg (f.cells m).toArray) := Lib.hid (by rw [hv.out, ← HN.out]; rfl)
  have HF := Lib.hid hf
  have HU : Hid (used f.kind = [0, 6, 7]) := Lib.hid (by rw [hk, used_13])
  have HRC : Hid (∀ (w : World) (v : Value), Hid (v = f.v) → f.ok w w.heap.size → Calls Tryd.prog 16 #[v] w fun e w' => ∃ A, e = .returned (.tuple #[.string ⟨#[113, 116, 102]⟩, .slice A 3 3]) ∧ Hid (F.CsR w' w'.heap.size A ((used f.kind).map (cellF f)) ∧ Below w.heap.size w w')) := Lib.hid (fun w v hv hf => by
    have h := rcells_every f w v hv hf
    have e1 : (⟨(layL f.kind).toArray⟩ : ByteArray) = ⟨#[113, 116, 102]⟩ := by rw [hk]; rfl
    have e2 : (used f.kind).length = 3 := by rw [HU.out]; rfl
    rw [e1, e2] at h
    exact h)
  have HRK : Hid (∀ (A : Option Addr) (w : World), F.CsR w w.heap.size A ((used f.kind).map (cellF f)) → Calls Tryd.prog 52 #[.int .i64 13, .slice A 3 3] w (RK 13 ((used f.kind).map (cellF f)) w)) := Lib.hid (fun A w hc => by
    have hw := HF.out.weight
    have h := rkind_every 13 A 3 ((used f.kind).map (cellF f)) w (by rw [used_13]; simp) (by rw [List.length_map, hk]) hc (cells_all_ok HF.out)
    have e2 : (used 13).length = 3 := by rw [used_13]; rfl
    rw [e2] at h
    exact h)
  have HKD := Lib.hid hk
  clear hv hf hk
  go_enter Tryd.func42, Tryd.ntmps42
  go_wp2_with (first
    | (refine wl_box rfl 25 (.tmp 0) rfl (f.cells m) HV.out ?_
       intro w1 HA1 HB1 HZ1
       have hz1 : w.heap.size < w1.heap.size := by rw [HZ1.out]; omega)
    | (refine wl_load rfl 25 (.tmp 1) rfl w.heap.size rfl 25 _ _ HA1.out under25.choose_spec rfl size25 ?_
       intro vp HVP))
  have HVP2 : Hid (vp = f.v) := Lib.hid (by rw [HVP.out, ← HN.out]; rfl)
  have HF1 : Hid (f.ok w1 w1.heap.size) := Lib.hid ((HF.out.below HB1.out).more (Nat.le_of_lt hz1))
  with_reducible refine (HRC.out w1 vp HVP2 HF1.out).mono ?_
  rintro e w2 ⟨A2, rfl, HV2⟩
  have HB2 := Lib.hid (HB1.out.trans (HV2.out.2.mono HB1.out.size))
  have HA2 := Lib.hid (HA1.out.below HV2.out.2 hz1)
  have HF2 : Hid (f.ok w2 w2.heap.size) := Lib.hid ((HF1.out.below HV2.out.2).more HV2.out.2.size)
  have HC2 := Lib.hid HV2.out.1
  have hz2 : w1.heap.size ≤ w2.heap.size := HV2.out.2.size
  clear HV2 HVP HVP2 HA1 HB1 HZ1
  have hg2 : w.heap.size < w2.heap.size := by omega
  have HK0 : Hid ((f.cells m)[0]? = some (.int .i64 13)) := Lib.hid (by rw [← HKD.out]; rfl)
  have HS : Hid (∀ w', Below w2.heap.size w2 w' → w'.cell? ⟨w.heap.size, 0, none⟩ = some (.int .i64 13) ∧ w'.rangeAt w.heap.size 0 (f.cells m)) := Lib.hid (fun w' hb => ⟨((HA2.out.below hb hg2).cell 0).trans HK0.out, (HA2.out.below hb hg2).range (es := []) (by simp)⟩)
  have HZL : Hid ((Tryd.prog.info? 25).map (·.size) = some (f.cells m).length) := Lib.hid size25
  have HBD : Hid (Below w2.heap.size w2 w2.drew) := Lib.hid ((Below.refl _ _).drew)
  go_wp2_with fail
  refine wp_region_held_drew (S := fun w' => w'.cell? ⟨w.heap.size, 0, none⟩ = some (.int .i64 13) ∧ w'.rangeAt w.heap.size 0 (f.cells m)) (by kernel_rfl) (HS.out _ HBD.out) (fun hHeld => ?_)
  refine tke 0 (.string ⟨#[113, 116, 102]⟩) rfl (Or.inl ⟨by kernel_rfl, ?_⟩) ?_
  · (intro w' hSw; (try dsimp only at hSw); go_simp)
  simp only [getElem_toArray, getElem_cons_zero, Act.put, setIfInBounds_toArray, set_cons_zero, set_cons_succ]
  refine tke 1 (.bool false) rfl (Or.inl ⟨by kernel_rfl, ?_⟩) ?_
  · (intro w' hSw; (try dsimp only at hSw); go_simp)
  simp only [getElem_toArray, getElem_cons_succ, getElem_cons_zero, Act.put, setIfInBounds_toArray, set_cons_zero, set_cons_succ]
  refine tke 2 (.bool false) rfl (Or.inl ⟨by kernel_rfl, ?_⟩) ?_
  · (intro w' hSw; (try dsimp only at hSw); go_simp)
  simp only [getElem_toArray, getElem_cons_succ, getElem_cons_zero, Act.put, setIfInBounds_toArray, set_cons_zero, set_cons_succ]
  refine tke 3 (.agg (f.cells m).toArray) rfl (yieldsIf_load_mid (by kernel_rfl) 25 (.tmp 1) rfl w.heap.size 0 rfl (f.cells m) _ (fun w' hSw => hSw.2) under25.choose_spec rfl HZL.out) ?_
  simp only [getElem_toArray, getElem_cons_succ, getElem_cons_zero, Act.put, setIfInBounds_toArray, set_cons_zero, set_cons_succ]
  refine tke 4 (.pointer (some ⟨w.heap.size, 0, none⟩)) rfl (Or.inl ⟨by kernel_rfl, ?_⟩) ?_
  · (intro w' hSw; (try dsimp only at hSw); go_simp)
  simp only [getElem_toArray, getElem_cons_succ, getElem_cons_zero, Act.put, setIfInBounds_toArray, set_cons_zero, set_cons_succ]
  refine tke 5 (.int .i64 13) rfl (Or.inl ⟨by kernel_rfl, ?_⟩) ?_
  · (intro w' hSw; (try dsimp only at hSw); go_simp)
  simp only [getElem_toArray, getElem_cons_succ, getElem_cons_zero, Act.put, setIfInBounds_toArray, set_cons_zero, set_cons_succ]
  refine tke 6 (.slice A2 3 3) rfl (Or.inl ⟨by kernel_rfl, ?_⟩) ?_
  · (intro w' hSw; (try dsimp only at hSw); go_simp)
  simp only [getElem_toArray, getElem_cons_succ, getElem_cons_zero, Act.put, setIfInBounds_toArray, set_cons_zero, set_cons_succ]
  refine wpAnyH_ready (rs := [7]) (by kernel_rfl) (by simp) ?_
  refine AllReadyH.cons rfl (fun K hK => ?_) AllReadyH.nil
  go_simp
  with_reducible refine (HRK.out A2 w2.drew (csr_more (HC2.out.keep HBD.out) HBD.out.size)).mono ?_
  rintro e w3 ⟨G, rfl, HV3⟩
  have HB3 : Hid (Below w2.heap.size w2 w3) := Lib.hid (HBD.out.trans (HV3.out.2.2.mono HBD.out.size))
  have HG3 : Hid (G.ok w3 w3.heap.size) := Lib.hid HV3.out.2.1
  have HGP : Hid (G.pl = selfF f) := Lib.hid (by rw [HV3.out.1, selfF, HKD.out])
  refine hK.out _ _ (HS.out _ HB3.out) (fun hHeld => ?_)
  clear hK K HV3
  (try simp only [getElem_toArray, getElem_cons_succ, getElem_cons_zero, Act.put, setIfInBounds_toArray, set_cons_zero, set_cons_succ])
  refine wpAnyH_ready (rs := [8]) (by kernel_rfl) (by simp) ?_
  refine AllReadyH.cons rfl (fun K hK => ?_) AllReadyH.nil
  go_simp
  have HSM := Lib.hid (rsame_any f G (.agg (f.cells m).toArray) G.v w3 (by rw [← HN.out]; rfl) rfl ((HF2.out.below HB3.out).more HB3.out.size) HG3.out)
  cases hs : sameB f G with
  | false =>
    rw [hs] at HSM
    have HM : Hid (valid f = false) := Lib.hid (by
      rw [Bool.eq_false_iff]
      intro hv
      have h1 := self_valid hv HF.out.weight
      rw [← HGP.out] at h1
      rw [(sameB_iff f G).2 h1] at hs
      cases hs)
    clear hs
    with_reducible refine HSM.out.mono ?_
    rintro e w4 ⟨rfl, HV4⟩
    have HB4 : Hid (Below w2.heap.size w2 w4) := Lib.hid (HB3.out.trans (HV4.out.mono HB3.out.size))
    refine hK.out _ _ (HS.out _ HB4.out) (fun hHeld => ?_)
    clear hK K
    (try simp only [getElem_toArray, getElem_cons_succ, getElem_cons_zero, Act.put, setIfInBounds_toArray, set_cons_zero, set_cons_succ])
    refine tke 9 (.bool true) rfl (Or.inl ⟨by kernel_rfl, ?_⟩) ?_
    · (intro w' hSw; (try dsimp only at hSw); go_simp)
    simp only [getElem_toArray, getElem_cons_succ, getElem_cons_zero, Act.put, setIfInBounds_toArray, set_cons_zero, set_cons_succ]
    refine tke 10 (.bool true) rfl (Or.inl ⟨by kernel_rfl, ?_⟩) ?_
    · (intro w' hSw; (try dsimp only at hSw); go_simp)
    simp only [getElem_toArray, getElem_cons_succ, getElem_cons_zero, Act.put, setIfInBounds_toArray, set_cons_zero, set_cons_succ]
    refine wpAnyH_done (by kernel_rfl) ?_ _
    (try simp only [getElem_toArray, getElem_cons_succ, getElem_cons_zero, Act.put, setIfInBounds_toArray, set_cons_zero, set_cons_succ])
    clear hHeld
    have HBF := Lib.hid (HB2.out.trans (HB4.out.mono HB2.out.size))
    go_wp2_with fail
    go_ret
    exact ⟨by rw [HM.out]; rfl, HBF⟩
  | true =>
    rw [hs] at HSM
    have HM : Hid (valid f = decide ((1 ≤ f.seq ∧ f.seq ≤ 1099511627776) ∧ (1 ≤ (f.name.size : Int) ∧ (f.name.size : Int) ≤ 63))) := Lib.hid (by
      rw [valid_own (((sameB_iff f G).1 hs).trans HGP.out) (by rw [HU.out]; simp), HU.out, HKD.out, Bool.eq_iff_iff]
      (try rw [← HN.out])
      simp [lo, hi, ext, blo, bhi, wrap64]
      all_goals omega)
    clear hs
    with_reducible refine HSM.out.mono ?_
    rintro e w4 ⟨rfl, HV4⟩
    have HB4 : Hid (Below w2.heap.size w2 w4) := Lib.hid (HB3.out.trans (HV4.out.mono HB3.out.size))
    refine hK.out _ _ (HS.out _ HB4.out) (fun hHeld => ?_)
    clear hK K
    (try simp only [getElem_toArray, getElem_cons_succ, getElem_cons_zero, Act.put, setIfInBounds_toArray, set_cons_zero, set_cons_succ])
    refine tke 9 (.bool false) rfl (Or.inl ⟨by kernel_rfl, ?_⟩) ?_
    · (intro w' hSw; (try dsimp only at hSw); go_simp)
    simp only [getElem_toArray, getElem_cons_succ, getElem_cons_zero, Act.put, setIfInBounds_toArray, set_cons_zero, set_cons_succ]
    refine tke 10 (.bool false) rfl (Or.inl ⟨by kernel_rfl, ?_⟩) ?_
    · (intro w' hSw; (try dsimp only at hSw); go_simp)
    simp only [getElem_toArray, getElem_cons_succ, getElem_cons_zero, Act.put, setIfInBounds_toArray, set_cons_zero, set_cons_succ]
    refine wpAnyH_done (by kernel_rfl) ?_ _
    (try simp only [getElem_toArray, getElem_cons_succ, getElem_cons_zero, Act.put, setIfInBounds_toArray, set_cons_zero, set_cons_succ])
    clear hHeld
    have HBF := Lib.hid (HB2.out.trans (HB4.out.mono HB2.out.size))
    have HA4 := Lib.hid (HA2.out.below HB4.out hg2)
    have k0 : w4.cell? ⟨w.heap.size, 0, none⟩ = some (.int .i64 13) := (HA4.out.cell 0).trans HK0.out
    have k1 : w4.cell? ⟨w.heap.size, 1, none⟩ = some (.int .i64 f.seq) := HA4.out.cell 1
    have k2 : w4.cell? ⟨w.heap.size, 2, none⟩ = some (.int .i64 f.got) := HA4.out.cell 2
    have k3 : w4.cell? ⟨w.heap.size, 3, none⟩ = some (.int .i64 f.stream) := HA4.out.cell 3
    have k4 : w4.cell? ⟨w.heap.size, 4, none⟩ = some (.int .i64 f.amount) := HA4.out.cell 4
    have k5 : w4.cell? ⟨w.heap.size, 5, none⟩ = some (.int .i64 f.code) := HA4.out.cell 5
    have k6 : w4.cell? ⟨w.heap.size, 6, none⟩ = some (.string f.who) := HA4.out.cell 6
    have k7 : w4.cell? ⟨w.heap.size, 7, none⟩ = some (.string f.name) := HA4.out.cell 7
    have k9 : w4.cell? ⟨w.heap.size, 9, none⟩ = some (.slice f.ba m f.bc) := HA4.out.cell 9
    clear HSM HRC HRK HS HBD HZL HC2 HA2 HK0
    go_wp2_with fail
    all_goals
      go_ret
      exact ⟨ret_bool (by rw [HM.out, Bool.eq_iff_iff]; simp; all_goals omega), HBF⟩
set_option maxRecDepth 100000 in
set_option maxHeartbeats 8000000 in
theorem rform_14 (f : Fr) (hk : f.kind = 14) : RForm f (valid f) := by
  intro w v hv hf
  obtain ⟨m, HN⟩ : ∃ m, Hid (f.bs.length = m) := ⟨_, rfl⟩
  have HV : Hid (v = .agg (f.cells m).toArray) := Lib.hid (by rw [hv.out, ← HN.out]; rfl)
  have HF := Lib.hid hf
  have HU : Hid (used f.kind = [0, 6]) := Lib.hid (by rw [hk, used_14])
  have HRC : Hid (∀ (w : World) (v : Value), Hid (v = f.v) → f.ok w w.heap.size → Calls Tryd.prog 16 #[v] w fun e w' => ∃ A, e = .returned (.tuple #[.string ⟨#[113, 116]⟩, .slice A 2 2]) ∧ Hid (F.CsR w' w'.heap.size A ((used f.kind).map (cellF f)) ∧ Below w.heap.size w w')) := Lib.hid (fun w v hv hf => by
    have h := rcells_every f w v hv hf
    have e1 : (⟨(layL f.kind).toArray⟩ : ByteArray) = ⟨#[113, 116]⟩ := by rw [hk]; rfl
    have e2 : (used f.kind).length = 2 := by rw [HU.out]; rfl
    rw [e1, e2] at h
    exact h)
  have HRK : Hid (∀ (A : Option Addr) (w : World), F.CsR w w.heap.size A ((used f.kind).map (cellF f)) → Calls Tryd.prog 52 #[.int .i64 14, .slice A 2 2] w (RK 14 ((used f.kind).map (cellF f)) w)) := Lib.hid (fun A w hc => by
    have hw := HF.out.weight
    have h := rkind_every 14 A 2 ((used f.kind).map (cellF f)) w (by rw [used_14]; simp) (by rw [List.length_map, hk]) hc (cells_all_ok HF.out)
    have e2 : (used 14).length = 2 := by rw [used_14]; rfl
    rw [e2] at h
    exact h)
  have HKD := Lib.hid hk
  clear hv hf hk
  go_enter Tryd.func42, Tryd.ntmps42
  go_wp2_with (first
    | (refine wl_box rfl 25 (.tmp 0) rfl (f.cells m) HV.out ?_
       intro w1 HA1 HB1 HZ1
       have hz1 : w.heap.size < w1.heap.size := by rw [HZ1.out]; omega)
    | (refine wl_load rfl 25 (.tmp 1) rfl w.heap.size rfl 25 _ _ HA1.out under25.choose_spec rfl size25 ?_
       intro vp HVP))
  have HVP2 : Hid (vp = f.v) := Lib.hid (by rw [HVP.out, ← HN.out]; rfl)
  have HF1 : Hid (f.ok w1 w1.heap.size) := Lib.hid ((HF.out.below HB1.out).more (Nat.le_of_lt hz1))
  with_reducible refine (HRC.out w1 vp HVP2 HF1.out).mono ?_
  rintro e w2 ⟨A2, rfl, HV2⟩
  have HB2 := Lib.hid (HB1.out.trans (HV2.out.2.mono HB1.out.size))
  have HA2 := Lib.hid (HA1.out.below HV2.out.2 hz1)
  have HF2 : Hid (f.ok w2 w2.heap.size) := Lib.hid ((HF1.out.below HV2.out.2).more HV2.out.2.size)
  have HC2 := Lib.hid HV2.out.1
  have hz2 : w1.heap.size ≤ w2.heap.size := HV2.out.2.size
  clear HV2 HVP HVP2 HA1 HB1 HZ1
  have hg2 : w.heap.size < w2.heap.size := by omega
  have HK0 : Hid ((f.cells m)[0]? = some (.int .i64 14)) := Lib.hid (by rw [← HKD.out]; rfl)
  have HS : Hid (∀ w', Below w2.heap.size w2 w' → w'.cell? ⟨w.heap.size, 0, none⟩ = some (.int .i64 14) ∧ w'.rangeAt w.heap.size 0 (f.cells m)) := Lib.hid (fun w' hb => ⟨((HA2.out.below hb hg2).cell 0).trans HK0.out, (HA2.out.below hb hg2).range (es := []) (by simp)⟩)
  have HZL : Hid ((Tryd.prog.info? 25).map (·.size) = some (f.cells m).length) := Lib.hid size25
  have HBD : Hid (Below w2.heap.size w2 w2.drew) := Lib.hid ((Below.refl _ _).drew)
  go_wp2_with fail
  refine wp_region_held_drew (S := fun w' => w'.cell? ⟨w.heap.size, 0, none⟩ = some (.int .i64 14) ∧ w'.rangeAt w.heap.size 0 (f.cells m)) (by kernel_rfl) (HS.out _ HBD.out) (fun hHeld => ?_)
  refine tke 0 (.string ⟨#[113, 116]⟩) rfl (Or.inl ⟨by kernel_rfl, ?_⟩) ?_
  · (intro w' hSw; (try dsimp only at hSw); go_simp)
  simp only [getElem_toArray, getElem_cons_zero, Act.put, setIfInBounds_toArray, set_cons_zero, set_cons_succ]
  refine tke 1 (.bool false) rfl (Or.inl ⟨by kernel_rfl, ?_⟩) ?_
  · (intro w' hSw; (try dsimp only at hSw); go_simp)
  simp only [getElem_toArray, getElem_cons_succ, getElem_cons_zero, Act.put, setIfInBounds_toArray, set_cons_zero, set_cons_succ]
  refine tke 2 (.bool false) rfl (Or.inl ⟨by kernel_rfl, ?_⟩) ?_
  · (intro w' hSw; (try dsimp only at hSw); go_simp)
  simp only [getElem_toArray, getElem_cons_succ, getElem_cons_zero, Act.put, setIfInBounds_toArray, set_cons_zero, set_cons_succ]
  refine tke 3 (.agg (f.cells m).toArray) rfl (yieldsIf_load_mid (by kernel_rfl) 25 (.tmp 1) rfl w.heap.size 0 rfl (f.cells m) _ (fun w' hSw => hSw.2) under25.choose_spec rfl HZL.out) ?_
  simp only [getElem_toArray, getElem_cons_succ, getElem_cons_zero, Act.put, setIfInBounds_toArray, set_cons_zero, set_cons_succ]
  refine tke 4 (.pointer (some ⟨w.heap.size, 0, none⟩)) rfl (Or.inl ⟨by kernel_rfl, ?_⟩) ?_
  · (intro w' hSw; (try dsimp only at hSw); go_simp)
  simp only [getElem_toArray, getElem_cons_succ, getElem_cons_zero, Act.put, setIfInBounds_toArray, set_cons_zero, set_cons_succ]
  refine tke 5 (.int .i64 14) rfl (Or.inl ⟨by kernel_rfl, ?_⟩) ?_
  · (intro w' hSw; (try dsimp only at hSw); go_simp)
  simp only [getElem_toArray, getElem_cons_succ, getElem_cons_zero, Act.put, setIfInBounds_toArray, set_cons_zero, set_cons_succ]
  refine tke 6 (.slice A2 2 2) rfl (Or.inl ⟨by kernel_rfl, ?_⟩) ?_
  · (intro w' hSw; (try dsimp only at hSw); go_simp)
  simp only [getElem_toArray, getElem_cons_succ, getElem_cons_zero, Act.put, setIfInBounds_toArray, set_cons_zero, set_cons_succ]
  refine wpAnyH_ready (rs := [7]) (by kernel_rfl) (by simp) ?_
  refine AllReadyH.cons rfl (fun K hK => ?_) AllReadyH.nil
  go_simp
  with_reducible refine (HRK.out A2 w2.drew (csr_more (HC2.out.keep HBD.out) HBD.out.size)).mono ?_
  rintro e w3 ⟨G, rfl, HV3⟩
  have HB3 : Hid (Below w2.heap.size w2 w3) := Lib.hid (HBD.out.trans (HV3.out.2.2.mono HBD.out.size))
  have HG3 : Hid (G.ok w3 w3.heap.size) := Lib.hid HV3.out.2.1
  have HGP : Hid (G.pl = selfF f) := Lib.hid (by rw [HV3.out.1, selfF, HKD.out])
  refine hK.out _ _ (HS.out _ HB3.out) (fun hHeld => ?_)
  clear hK K HV3
  (try simp only [getElem_toArray, getElem_cons_succ, getElem_cons_zero, Act.put, setIfInBounds_toArray, set_cons_zero, set_cons_succ])
  refine wpAnyH_ready (rs := [8]) (by kernel_rfl) (by simp) ?_
  refine AllReadyH.cons rfl (fun K hK => ?_) AllReadyH.nil
  go_simp
  have HSM := Lib.hid (rsame_any f G (.agg (f.cells m).toArray) G.v w3 (by rw [← HN.out]; rfl) rfl ((HF2.out.below HB3.out).more HB3.out.size) HG3.out)
  cases hs : sameB f G with
  | false =>
    rw [hs] at HSM
    have HM : Hid (valid f = false) := Lib.hid (by
      rw [Bool.eq_false_iff]
      intro hv
      have h1 := self_valid hv HF.out.weight
      rw [← HGP.out] at h1
      rw [(sameB_iff f G).2 h1] at hs
      cases hs)
    clear hs
    with_reducible refine HSM.out.mono ?_
    rintro e w4 ⟨rfl, HV4⟩
    have HB4 : Hid (Below w2.heap.size w2 w4) := Lib.hid (HB3.out.trans (HV4.out.mono HB3.out.size))
    refine hK.out _ _ (HS.out _ HB4.out) (fun hHeld => ?_)
    clear hK K
    (try simp only [getElem_toArray, getElem_cons_succ, getElem_cons_zero, Act.put, setIfInBounds_toArray, set_cons_zero, set_cons_succ])
    refine tke 9 (.bool true) rfl (Or.inl ⟨by kernel_rfl, ?_⟩) ?_
    · (intro w' hSw; (try dsimp only at hSw); go_simp)
    simp only [getElem_toArray, getElem_cons_succ, getElem_cons_zero, Act.put, setIfInBounds_toArray, set_cons_zero, set_cons_succ]
    refine tke 10 (.bool true) rfl (Or.inl ⟨by kernel_rfl, ?_⟩) ?_
    · (intro w' hSw; (try dsimp only at hSw); go_simp)
    simp only [getElem_toArray, getElem_cons_succ, getElem_cons_zero, Act.put, setIfInBounds_toArray, set_cons_zero, set_cons_succ]
    refine wpAnyH_done (by kernel_rfl) ?_ _
    (try simp only [getElem_toArray, getElem_cons_succ, getElem_cons_zero, Act.put, setIfInBounds_toArray, set_cons_zero, set_cons_succ])
    clear hHeld
    have HBF := Lib.hid (HB2.out.trans (HB4.out.mono HB2.out.size))
    go_wp2_with fail
    go_ret
    exact ⟨by rw [HM.out]; rfl, HBF⟩
  | true =>
    rw [hs] at HSM
    have HM : Hid (valid f = decide ((1 ≤ f.seq ∧ f.seq ≤ 1099511627776) ∧ (1 ≤ (f.name.size : Int) ∧ (f.name.size : Int) ≤ 63))) := Lib.hid (by
      rw [valid_own (((sameB_iff f G).1 hs).trans HGP.out) (by rw [HU.out]; simp), HU.out, HKD.out, Bool.eq_iff_iff]
      (try rw [← HN.out])
      simp [lo, hi, ext, blo, bhi, wrap64]
      all_goals omega)
    clear hs
    with_reducible refine HSM.out.mono ?_
    rintro e w4 ⟨rfl, HV4⟩
    have HB4 : Hid (Below w2.heap.size w2 w4) := Lib.hid (HB3.out.trans (HV4.out.mono HB3.out.size))
    refine hK.out _ _ (HS.out _ HB4.out) (fun hHeld => ?_)
    clear hK K
    (try simp only [getElem_toArray, getElem_cons_succ, getElem_cons_zero, Act.put, setIfInBounds_toArray, set_cons_zero, set_cons_succ])
    refine tke 9 (.bool false) rfl (Or.inl ⟨by kernel_rfl, ?_⟩) ?_
    · (intro w' hSw; (try dsimp only at hSw); go_simp)
    simp only [getElem_toArray, getElem_cons_succ, getElem_cons_zero, Act.put, setIfInBounds_toArray, set_cons_zero, set_cons_succ]
    refine tke 10 (.bool false) rfl (Or.inl ⟨by kernel_rfl, ?_⟩) ?_
    · (intro w' hSw; (try dsimp only at hSw); go_simp)
    simp only [getElem_toArray, getElem_cons_succ, getElem_cons_zero, Act.put, setIfInBounds_toArray, set_cons_zero, set_cons_succ]
    refine wpAnyH_done (by kernel_rfl) ?_ _
    (try simp only [getElem_toArray, getElem_cons_succ, getElem_cons_zero, Act.put, setIfInBounds_toArray, set_cons_zero, set_cons_succ])
    clear hHeld
    have HBF := Lib.hid (HB2.out.trans (HB4.out.mono HB2.out.size))
    have HA4 := Lib.hid (HA2.out.below HB4.out hg2)
    have k0 : w4.cell? ⟨w.heap.size, 0, none⟩ = some (.int .i64 14) := (HA4.out.cell 0).trans HK0.out
    have k1 : w4.cell? ⟨w.heap.size, 1, none⟩ = some (.int .i64 f.seq) := HA4.out.cell 1
    have k2 : w4.cell? ⟨w.heap.size, 2, none⟩ = some (.int .i64 f.got) := HA4.out.cell 2
    have k3 : w4.cell? ⟨w.heap.size, 3, none⟩ = some (.int .i64 f.stream) := HA4.out.cell 3
    have k4 : w4.cell? ⟨w.heap.size, 4, none⟩ = some (.int .i64 f.amount) := HA4.out.cell 4
    have k5 : w4.cell? ⟨w.heap.size, 5, none⟩ = some (.int .i64 f.code) := HA4.out.cell 5
    have k6 : w4.cell? ⟨w.heap.size, 6, none⟩ = some (.string f.who) := HA4.out.cell 6
    have k7 : w4.cell? ⟨w.heap.size, 7, none⟩ = some (.string f.name) := HA4.out.cell 7
    have k9 : w4.cell? ⟨w.heap.size, 9, none⟩ = some (.slice f.ba m f.bc) := HA4.out.cell 9
    clear HSM HRC HRK HS HBD HZL HC2 HA2 HK0
    go_wp2_with fail
    all_goals
      go_ret
      exact ⟨ret_bool (by rw [HM.out, Bool.eq_iff_iff]; simp; all_goals omega), HBF⟩
set_option maxRecDepth 100000 in
set_option maxHeartbeats 8000000 in
theorem rform_15 (f : Fr) (hk : f.kind = 15) : RForm f (valid f) := by
  intro w v hv hf
  obtain ⟨m, HN⟩ : ∃ m, Hid (f.bs.length = m) := ⟨_, rfl⟩
  have HV : Hid (v = .agg (f.cells m).toArray) := Lib.hid (by rw [hv.out, ← HN.out]; rfl)
  have HF := Lib.hid hf
  have HU : Hid (used f.kind = [0, 5, 6]) := Lib.hid (by rw [hk, used_15])
  have HRC : Hid (∀ (w : World) (v : Value), Hid (v = f.v) → f.ok w w.heap.size → Calls Tryd.prog 16 #[v] w fun e w' => ∃ A, e = .returned (.tuple #[.string ⟨#[113, 116, 116]⟩, .slice A 3 3]) ∧ Hid (F.CsR w' w'.heap.size A ((used f.kind).map (cellF f)) ∧ Below w.heap.size w w')) := Lib.hid (fun w v hv hf => by
    have h := rcells_every f w v hv hf
    have e1 : (⟨(layL f.kind).toArray⟩ : ByteArray) = ⟨#[113, 116, 116]⟩ := by rw [hk]; rfl
    have e2 : (used f.kind).length = 3 := by rw [HU.out]; rfl
    rw [e1, e2] at h
    exact h)
  have HRK : Hid (∀ (A : Option Addr) (w : World), F.CsR w w.heap.size A ((used f.kind).map (cellF f)) → Calls Tryd.prog 52 #[.int .i64 15, .slice A 3 3] w (RK 15 ((used f.kind).map (cellF f)) w)) := Lib.hid (fun A w hc => by
    have hw := HF.out.weight
    have h := rkind_every 15 A 3 ((used f.kind).map (cellF f)) w (by rw [used_15]; simp) (by rw [List.length_map, hk]) hc (cells_all_ok HF.out)
    have e2 : (used 15).length = 3 := by rw [used_15]; rfl
    rw [e2] at h
    exact h)
  have HKD := Lib.hid hk
  clear hv hf hk
  go_enter Tryd.func42, Tryd.ntmps42
  go_wp2_with (first
    | (refine wl_box rfl 25 (.tmp 0) rfl (f.cells m) HV.out ?_
       intro w1 HA1 HB1 HZ1
       have hz1 : w.heap.size < w1.heap.size := by rw [HZ1.out]; omega)
    | (refine wl_load rfl 25 (.tmp 1) rfl w.heap.size rfl 25 _ _ HA1.out under25.choose_spec rfl size25 ?_
       intro vp HVP))
  have HVP2 : Hid (vp = f.v) := Lib.hid (by rw [HVP.out, ← HN.out]; rfl)
  have HF1 : Hid (f.ok w1 w1.heap.size) := Lib.hid ((HF.out.below HB1.out).more (Nat.le_of_lt hz1))
  with_reducible refine (HRC.out w1 vp HVP2 HF1.out).mono ?_
  rintro e w2 ⟨A2, rfl, HV2⟩
  have HB2 := Lib.hid (HB1.out.trans (HV2.out.2.mono HB1.out.size))
  have HA2 := Lib.hid (HA1.out.below HV2.out.2 hz1)
  have HF2 : Hid (f.ok w2 w2.heap.size) := Lib.hid ((HF1.out.below HV2.out.2).more HV2.out.2.size)
  have HC2 := Lib.hid HV2.out.1
  have hz2 : w1.heap.size ≤ w2.heap.size := HV2.out.2.size
  clear HV2 HVP HVP2 HA1 HB1 HZ1
  have hg2 : w.heap.size < w2.heap.size := by omega
  have HK0 : Hid ((f.cells m)[0]? = some (.int .i64 15)) := Lib.hid (by rw [← HKD.out]; rfl)
  have HS : Hid (∀ w', Below w2.heap.size w2 w' → w'.cell? ⟨w.heap.size, 0, none⟩ = some (.int .i64 15) ∧ w'.rangeAt w.heap.size 0 (f.cells m)) := Lib.hid (fun w' hb => ⟨((HA2.out.below hb hg2).cell 0).trans HK0.out, (HA2.out.below hb hg2).range (es := []) (by simp)⟩)
  have HZL : Hid ((Tryd.prog.info? 25).map (·.size) = some (f.cells m).length) := Lib.hid size25
  have HBD : Hid (Below w2.heap.size w2 w2.drew) := Lib.hid ((Below.refl _ _).drew)
  go_wp2_with fail
  refine wp_region_held_drew (S := fun w' => w'.cell? ⟨w.heap.size, 0, none⟩ = some (.int .i64 15) ∧ w'.rangeAt w.heap.size 0 (f.cells m)) (by kernel_rfl) (HS.out _ HBD.out) (fun hHeld => ?_)
  refine tke 0 (.string ⟨#[113, 116, 116]⟩) rfl (Or.inl ⟨by kernel_rfl, ?_⟩) ?_
  · (intro w' hSw; (try dsimp only at hSw); go_simp)
  simp only [getElem_toArray, getElem_cons_zero, Act.put, setIfInBounds_toArray, set_cons_zero, set_cons_succ]
  refine tke 1 (.bool false) rfl (Or.inl ⟨by kernel_rfl, ?_⟩) ?_
  · (intro w' hSw; (try dsimp only at hSw); go_simp)
  simp only [getElem_toArray, getElem_cons_succ, getElem_cons_zero, Act.put, setIfInBounds_toArray, set_cons_zero, set_cons_succ]
  refine tke 2 (.bool false) rfl (Or.inl ⟨by kernel_rfl, ?_⟩) ?_
  · (intro w' hSw; (try dsimp only at hSw); go_simp)
  simp only [getElem_toArray, getElem_cons_succ, getElem_cons_zero, Act.put, setIfInBounds_toArray, set_cons_zero, set_cons_succ]
  refine tke 3 (.agg (f.cells m).toArray) rfl (yieldsIf_load_mid (by kernel_rfl) 25 (.tmp 1) rfl w.heap.size 0 rfl (f.cells m) _ (fun w' hSw => hSw.2) under25.choose_spec rfl HZL.out) ?_
  simp only [getElem_toArray, getElem_cons_succ, getElem_cons_zero, Act.put, setIfInBounds_toArray, set_cons_zero, set_cons_succ]
  refine tke 4 (.pointer (some ⟨w.heap.size, 0, none⟩)) rfl (Or.inl ⟨by kernel_rfl, ?_⟩) ?_
  · (intro w' hSw; (try dsimp only at hSw); go_simp)
  simp only [getElem_toArray, getElem_cons_succ, getElem_cons_zero, Act.put, setIfInBounds_toArray, set_cons_zero, set_cons_succ]
  refine tke 5 (.int .i64 15) rfl (Or.inl ⟨by kernel_rfl, ?_⟩) ?_
  · (intro w' hSw; (try dsimp only at hSw); go_simp)
  simp only [getElem_toArray, getElem_cons_succ, getElem_cons_zero, Act.put, setIfInBounds_toArray, set_cons_zero, set_cons_succ]
  refine tke 6 (.slice A2 3 3) rfl (Or.inl ⟨by kernel_rfl, ?_⟩) ?_
  · (intro w' hSw; (try dsimp only at hSw); go_simp)
  simp only [getElem_toArray, getElem_cons_succ, getElem_cons_zero, Act.put, setIfInBounds_toArray, set_cons_zero, set_cons_succ]
  refine wpAnyH_ready (rs := [7]) (by kernel_rfl) (by simp) ?_
  refine AllReadyH.cons rfl (fun K hK => ?_) AllReadyH.nil
  go_simp
  with_reducible refine (HRK.out A2 w2.drew (csr_more (HC2.out.keep HBD.out) HBD.out.size)).mono ?_
  rintro e w3 ⟨G, rfl, HV3⟩
  have HB3 : Hid (Below w2.heap.size w2 w3) := Lib.hid (HBD.out.trans (HV3.out.2.2.mono HBD.out.size))
  have HG3 : Hid (G.ok w3 w3.heap.size) := Lib.hid HV3.out.2.1
  have HGP : Hid (G.pl = selfF f) := Lib.hid (by rw [HV3.out.1, selfF, HKD.out])
  refine hK.out _ _ (HS.out _ HB3.out) (fun hHeld => ?_)
  clear hK K HV3
  (try simp only [getElem_toArray, getElem_cons_succ, getElem_cons_zero, Act.put, setIfInBounds_toArray, set_cons_zero, set_cons_succ])
  refine wpAnyH_ready (rs := [8]) (by kernel_rfl) (by simp) ?_
  refine AllReadyH.cons rfl (fun K hK => ?_) AllReadyH.nil
  go_simp
  have HSM := Lib.hid (rsame_any f G (.agg (f.cells m).toArray) G.v w3 (by rw [← HN.out]; rfl) rfl ((HF2.out.below HB3.out).more HB3.out.size) HG3.out)
  cases hs : sameB f G with
  | false =>
    rw [hs] at HSM
    have HM : Hid (valid f = false) := Lib.hid (by
      rw [Bool.eq_false_iff]
      intro hv
      have h1 := self_valid hv HF.out.weight
      rw [← HGP.out] at h1
      rw [(sameB_iff f G).2 h1] at hs
      cases hs)
    clear hs
    with_reducible refine HSM.out.mono ?_
    rintro e w4 ⟨rfl, HV4⟩
    have HB4 : Hid (Below w2.heap.size w2 w4) := Lib.hid (HB3.out.trans (HV4.out.mono HB3.out.size))
    refine hK.out _ _ (HS.out _ HB4.out) (fun hHeld => ?_)
    clear hK K
    (try simp only [getElem_toArray, getElem_cons_succ, getElem_cons_zero, Act.put, setIfInBounds_toArray, set_cons_zero, set_cons_succ])
    refine tke 9 (.bool true) rfl (Or.inl ⟨by kernel_rfl, ?_⟩) ?_
    · (intro w' hSw; (try dsimp only at hSw); go_simp)
    simp only [getElem_toArray, getElem_cons_succ, getElem_cons_zero, Act.put, setIfInBounds_toArray, set_cons_zero, set_cons_succ]
    refine tke 10 (.bool true) rfl (Or.inl ⟨by kernel_rfl, ?_⟩) ?_
    · (intro w' hSw; (try dsimp only at hSw); go_simp)
    simp only [getElem_toArray, getElem_cons_succ, getElem_cons_zero, Act.put, setIfInBounds_toArray, set_cons_zero, set_cons_succ]
    refine wpAnyH_done (by kernel_rfl) ?_ _
    (try simp only [getElem_toArray, getElem_cons_succ, getElem_cons_zero, Act.put, setIfInBounds_toArray, set_cons_zero, set_cons_succ])
    clear hHeld
    have HBF := Lib.hid (HB2.out.trans (HB4.out.mono HB2.out.size))
    go_wp2_with fail
    go_ret
    exact ⟨by rw [HM.out]; rfl, HBF⟩
  | true =>
    rw [hs] at HSM
    have HM : Hid (valid f = decide ((1 ≤ f.seq ∧ f.seq ≤ 1099511627776) ∧ (1 ≤ (f.who.size : Int) ∧ (f.who.size : Int) ≤ 16) ∧ (1 ≤ (f.name.size : Int) ∧ (f.name.size : Int) ≤ 63))) := Lib.hid (by
      rw [valid_own (((sameB_iff f G).1 hs).trans HGP.out) (by rw [HU.out]; simp), HU.out, HKD.out, Bool.eq_iff_iff]
      (try rw [← HN.out])
      simp [lo, hi, ext, blo, bhi, wrap64]
      all_goals omega)
    clear hs
    with_reducible refine HSM.out.mono ?_
    rintro e w4 ⟨rfl, HV4⟩
    have HB4 : Hid (Below w2.heap.size w2 w4) := Lib.hid (HB3.out.trans (HV4.out.mono HB3.out.size))
    refine hK.out _ _ (HS.out _ HB4.out) (fun hHeld => ?_)
    clear hK K
    (try simp only [getElem_toArray, getElem_cons_succ, getElem_cons_zero, Act.put, setIfInBounds_toArray, set_cons_zero, set_cons_succ])
    refine tke 9 (.bool false) rfl (Or.inl ⟨by kernel_rfl, ?_⟩) ?_
    · (intro w' hSw; (try dsimp only at hSw); go_simp)
    simp only [getElem_toArray, getElem_cons_succ, getElem_cons_zero, Act.put, setIfInBounds_toArray, set_cons_zero, set_cons_succ]
    refine tke 10 (.bool false) rfl (Or.inl ⟨by kernel_rfl, ?_⟩) ?_
    · (intro w' hSw; (try dsimp only at hSw); go_simp)
    simp only [getElem_toArray, getElem_cons_succ, getElem_cons_zero, Act.put, setIfInBounds_toArray, set_cons_zero, set_cons_succ]
    refine wpAnyH_done (by kernel_rfl) ?_ _
    (try simp only [getElem_toArray, getElem_cons_succ, getElem_cons_zero, Act.put, setIfInBounds_toArray, set_cons_zero, set_cons_succ])
    clear hHeld
    have HBF := Lib.hid (HB2.out.trans (HB4.out.mono HB2.out.size))
    have HA4 := Lib.hid (HA2.out.below HB4.out hg2)
    have k0 : w4.cell? ⟨w.heap.size, 0, none⟩ = some (.int .i64 15) := (HA4.out.cell 0).trans HK0.out
    have k1 : w4.cell? ⟨w.heap.size, 1, none⟩ = some (.int .i64 f.seq) := HA4.out.cell 1
    have k2 : w4.cell? ⟨w.heap.size, 2, none⟩ = some (.int .i64 f.got) := HA4.out.cell 2
    have k3 : w4.cell? ⟨w.heap.size, 3, none⟩ = some (.int .i64 f.stream) := HA4.out.cell 3
    have k4 : w4.cell? ⟨w.heap.size, 4, none⟩ = some (.int .i64 f.amount) := HA4.out.cell 4
    have k5 : w4.cell? ⟨w.heap.size, 5, none⟩ = some (.int .i64 f.code) := HA4.out.cell 5
    have k6 : w4.cell? ⟨w.heap.size, 6, none⟩ = some (.string f.who) := HA4.out.cell 6
    have k7 : w4.cell? ⟨w.heap.size, 7, none⟩ = some (.string f.name) := HA4.out.cell 7
    have k9 : w4.cell? ⟨w.heap.size, 9, none⟩ = some (.slice f.ba m f.bc) := HA4.out.cell 9
    clear HSM HRC HRK HS HBD HZL HC2 HA2 HK0
    go_wp2_with fail
    all_goals
      go_ret
      exact ⟨ret_bool (by rw [HM.out, Bool.eq_iff_iff]; simp; all_goals omega), HBF⟩
set_option maxRecDepth 100000 in
set_option maxHeartbeats 8000000 in
theorem rform_16 (f : Fr) (hk : f.kind = 16) : RForm f (valid f) := by
  intro w v hv hf
  obtain ⟨m, HN⟩ : ∃ m, Hid (f.bs.length = m) := ⟨_, rfl⟩
  have HV : Hid (v = .agg (f.cells m).toArray) := Lib.hid (by rw [hv.out, ← HN.out]; rfl)
  have HF := Lib.hid hf
  have HU : Hid (used f.kind = [0, 5, 6]) := Lib.hid (by rw [hk, used_16])
  have HRC : Hid (∀ (w : World) (v : Value), Hid (v = f.v) → f.ok w w.heap.size → Calls Tryd.prog 16 #[v] w fun e w' => ∃ A, e = .returned (.tuple #[.string ⟨#[113, 116, 116]⟩, .slice A 3 3]) ∧ Hid (F.CsR w' w'.heap.size A ((used f.kind).map (cellF f)) ∧ Below w.heap.size w w')) := Lib.hid (fun w v hv hf => by
    have h := rcells_every f w v hv hf
    have e1 : (⟨(layL f.kind).toArray⟩ : ByteArray) = ⟨#[113, 116, 116]⟩ := by rw [hk]; rfl
    have e2 : (used f.kind).length = 3 := by rw [HU.out]; rfl
    rw [e1, e2] at h
    exact h)
  have HRK : Hid (∀ (A : Option Addr) (w : World), F.CsR w w.heap.size A ((used f.kind).map (cellF f)) → Calls Tryd.prog 52 #[.int .i64 16, .slice A 3 3] w (RK 16 ((used f.kind).map (cellF f)) w)) := Lib.hid (fun A w hc => by
    have hw := HF.out.weight
    have h := rkind_every 16 A 3 ((used f.kind).map (cellF f)) w (by rw [used_16]; simp) (by rw [List.length_map, hk]) hc (cells_all_ok HF.out)
    have e2 : (used 16).length = 3 := by rw [used_16]; rfl
    rw [e2] at h
    exact h)
  have HKD := Lib.hid hk
  clear hv hf hk
  go_enter Tryd.func42, Tryd.ntmps42
  go_wp2_with (first
    | (refine wl_box rfl 25 (.tmp 0) rfl (f.cells m) HV.out ?_
       intro w1 HA1 HB1 HZ1
       have hz1 : w.heap.size < w1.heap.size := by rw [HZ1.out]; omega)
    | (refine wl_load rfl 25 (.tmp 1) rfl w.heap.size rfl 25 _ _ HA1.out under25.choose_spec rfl size25 ?_
       intro vp HVP))
  have HVP2 : Hid (vp = f.v) := Lib.hid (by rw [HVP.out, ← HN.out]; rfl)
  have HF1 : Hid (f.ok w1 w1.heap.size) := Lib.hid ((HF.out.below HB1.out).more (Nat.le_of_lt hz1))
  with_reducible refine (HRC.out w1 vp HVP2 HF1.out).mono ?_
  rintro e w2 ⟨A2, rfl, HV2⟩
  have HB2 := Lib.hid (HB1.out.trans (HV2.out.2.mono HB1.out.size))
  have HA2 := Lib.hid (HA1.out.below HV2.out.2 hz1)
  have HF2 : Hid (f.ok w2 w2.heap.size) := Lib.hid ((HF1.out.below HV2.out.2).more HV2.out.2.size)
  have HC2 := Lib.hid HV2.out.1
  have hz2 : w1.heap.size ≤ w2.heap.size := HV2.out.2.size
  clear HV2 HVP HVP2 HA1 HB1 HZ1
  have hg2 : w.heap.size < w2.heap.size := by omega
  have HK0 : Hid ((f.cells m)[0]? = some (.int .i64 16)) := Lib.hid (by rw [← HKD.out]; rfl)
  have HS : Hid (∀ w', Below w2.heap.size w2 w' → w'.cell? ⟨w.heap.size, 0, none⟩ = some (.int .i64 16) ∧ w'.rangeAt w.heap.size 0 (f.cells m)) := Lib.hid (fun w' hb => ⟨((HA2.out.below hb hg2).cell 0).trans HK0.out, (HA2.out.below hb hg2).range (es := []) (by simp)⟩)
  have HZL : Hid ((Tryd.prog.info? 25).map (·.size) = some (f.cells m).length) := Lib.hid size25
  have HBD : Hid (Below w2.heap.size w2 w2.drew) := Lib.hid ((Below.refl _ _).drew)
  go_wp2_with fail
  refine wp_region_held_drew (S := fun w' => w'.cell? ⟨w.heap.size, 0, none⟩ = some (.int .i64 16) ∧ w'.rangeAt w.heap.size 0 (f.cells m)) (by kernel_rfl) (HS.out _ HBD.out) (fun hHeld => ?_)
  refine tke 0 (.string ⟨#[113, 116, 116]⟩) rfl (Or.inl ⟨by kernel_rfl, ?_⟩) ?_
  · (intro w' hSw; (try dsimp only at hSw); go_simp)
  simp only [getElem_toArray, getElem_cons_zero, Act.put, setIfInBounds_toArray, set_cons_zero, set_cons_succ]
  refine tke 1 (.bool false) rfl (Or.inl ⟨by kernel_rfl, ?_⟩) ?_
  · (intro w' hSw; (try dsimp only at hSw); go_simp)
  simp only [getElem_toArray, getElem_cons_succ, getElem_cons_zero, Act.put, setIfInBounds_toArray, set_cons_zero, set_cons_succ]
  refine tke 2 (.bool false) rfl (Or.inl ⟨by kernel_rfl, ?_⟩) ?_
  · (intro w' hSw; (try dsimp only at hSw); go_simp)
  simp only [getElem_toArray, getElem_cons_succ, getElem_cons_zero, Act.put, setIfInBounds_toArray, set_cons_zero, set_cons_succ]
  refine tke 3 (.agg (f.cells m).toArray) rfl (yieldsIf_load_mid (by kernel_rfl) 25 (.tmp 1) rfl w.heap.size 0 rfl (f.cells m) _ (fun w' hSw => hSw.2) under25.choose_spec rfl HZL.out) ?_
  simp only [getElem_toArray, getElem_cons_succ, getElem_cons_zero, Act.put, setIfInBounds_toArray, set_cons_zero, set_cons_succ]
  refine tke 4 (.pointer (some ⟨w.heap.size, 0, none⟩)) rfl (Or.inl ⟨by kernel_rfl, ?_⟩) ?_
  · (intro w' hSw; (try dsimp only at hSw); go_simp)
  simp only [getElem_toArray, getElem_cons_succ, getElem_cons_zero, Act.put, setIfInBounds_toArray, set_cons_zero, set_cons_succ]
  refine tke 5 (.int .i64 16) rfl (Or.inl ⟨by kernel_rfl, ?_⟩) ?_
  · (intro w' hSw; (try dsimp only at hSw); go_simp)
  simp only [getElem_toArray, getElem_cons_succ, getElem_cons_zero, Act.put, setIfInBounds_toArray, set_cons_zero, set_cons_succ]
  refine tke 6 (.slice A2 3 3) rfl (Or.inl ⟨by kernel_rfl, ?_⟩) ?_
  · (intro w' hSw; (try dsimp only at hSw); go_simp)
  simp only [getElem_toArray, getElem_cons_succ, getElem_cons_zero, Act.put, setIfInBounds_toArray, set_cons_zero, set_cons_succ]
  refine wpAnyH_ready (rs := [7]) (by kernel_rfl) (by simp) ?_
  refine AllReadyH.cons rfl (fun K hK => ?_) AllReadyH.nil
  go_simp
  with_reducible refine (HRK.out A2 w2.drew (csr_more (HC2.out.keep HBD.out) HBD.out.size)).mono ?_
  rintro e w3 ⟨G, rfl, HV3⟩
  have HB3 : Hid (Below w2.heap.size w2 w3) := Lib.hid (HBD.out.trans (HV3.out.2.2.mono HBD.out.size))
  have HG3 : Hid (G.ok w3 w3.heap.size) := Lib.hid HV3.out.2.1
  have HGP : Hid (G.pl = selfF f) := Lib.hid (by rw [HV3.out.1, selfF, HKD.out])
  refine hK.out _ _ (HS.out _ HB3.out) (fun hHeld => ?_)
  clear hK K HV3
  (try simp only [getElem_toArray, getElem_cons_succ, getElem_cons_zero, Act.put, setIfInBounds_toArray, set_cons_zero, set_cons_succ])
  refine wpAnyH_ready (rs := [8]) (by kernel_rfl) (by simp) ?_
  refine AllReadyH.cons rfl (fun K hK => ?_) AllReadyH.nil
  go_simp
  have HSM := Lib.hid (rsame_any f G (.agg (f.cells m).toArray) G.v w3 (by rw [← HN.out]; rfl) rfl ((HF2.out.below HB3.out).more HB3.out.size) HG3.out)
  cases hs : sameB f G with
  | false =>
    rw [hs] at HSM
    have HM : Hid (valid f = false) := Lib.hid (by
      rw [Bool.eq_false_iff]
      intro hv
      have h1 := self_valid hv HF.out.weight
      rw [← HGP.out] at h1
      rw [(sameB_iff f G).2 h1] at hs
      cases hs)
    clear hs
    with_reducible refine HSM.out.mono ?_
    rintro e w4 ⟨rfl, HV4⟩
    have HB4 : Hid (Below w2.heap.size w2 w4) := Lib.hid (HB3.out.trans (HV4.out.mono HB3.out.size))
    refine hK.out _ _ (HS.out _ HB4.out) (fun hHeld => ?_)
    clear hK K
    (try simp only [getElem_toArray, getElem_cons_succ, getElem_cons_zero, Act.put, setIfInBounds_toArray, set_cons_zero, set_cons_succ])
    refine tke 9 (.bool true) rfl (Or.inl ⟨by kernel_rfl, ?_⟩) ?_
    · (intro w' hSw; (try dsimp only at hSw); go_simp)
    simp only [getElem_toArray, getElem_cons_succ, getElem_cons_zero, Act.put, setIfInBounds_toArray, set_cons_zero, set_cons_succ]
    refine tke 10 (.bool true) rfl (Or.inl ⟨by kernel_rfl, ?_⟩) ?_
    · (intro w' hSw; (try dsimp only at hSw); go_simp)
    simp only [getElem_toArray, getElem_cons_succ, getElem_cons_zero, Act.put, setIfInBounds_toArray, set_cons_zero, set_cons_succ]
    refine wpAnyH_done (by kernel_rfl) ?_ _
    (try simp only [getElem_toArray, getElem_cons_succ, getElem_cons_zero, Act.put, setIfInBounds_toArray, set_cons_zero, set_cons_succ])
    clear hHeld
    have HBF := Lib.hid (HB2.out.trans (HB4.out.mono HB2.out.size))
    go_wp2_with fail
    go_ret
    exact ⟨by rw [HM.out]; rfl, HBF⟩
  | true =>
    rw [hs] at HSM
    have HM : Hid (valid f = decide ((1 ≤ f.seq ∧ f.seq ≤ 1099511627776) ∧ (1 ≤ (f.who.size : Int) ∧ (f.who.size : Int) ≤ 16) ∧ (1 ≤ (f.name.size : Int) ∧ (f.name.size : Int) ≤ 63))) := Lib.hid (by
      rw [valid_own (((sameB_iff f G).1 hs).trans HGP.out) (by rw [HU.out]; simp), HU.out, HKD.out, Bool.eq_iff_iff]
      (try rw [← HN.out])
      simp [lo, hi, ext, blo, bhi, wrap64]
      all_goals omega)
    clear hs
    with_reducible refine HSM.out.mono ?_
    rintro e w4 ⟨rfl, HV4⟩
    have HB4 : Hid (Below w2.heap.size w2 w4) := Lib.hid (HB3.out.trans (HV4.out.mono HB3.out.size))
    refine hK.out _ _ (HS.out _ HB4.out) (fun hHeld => ?_)
    clear hK K
    (try simp only [getElem_toArray, getElem_cons_succ, getElem_cons_zero, Act.put, setIfInBounds_toArray, set_cons_zero, set_cons_succ])
    refine tke 9 (.bool false) rfl (Or.inl ⟨by kernel_rfl, ?_⟩) ?_
    · (intro w' hSw; (try dsimp only at hSw); go_simp)
    simp only [getElem_toArray, getElem_cons_succ, getElem_cons_zero, Act.put, setIfInBounds_toArray, set_cons_zero, set_cons_succ]
    refine tke 10 (.bool false) rfl (Or.inl ⟨by kernel_rfl, ?_⟩) ?_
    · (intro w' hSw; (try dsimp only at hSw); go_simp)
    simp only [getElem_toArray, getElem_cons_succ, getElem_cons_zero, Act.put, setIfInBounds_toArray, set_cons_zero, set_cons_succ]
    refine wpAnyH_done (by kernel_rfl) ?_ _
    (try simp only [getElem_toArray, getElem_cons_succ, getElem_cons_zero, Act.put, setIfInBounds_toArray, set_cons_zero, set_cons_succ])
    clear hHeld
    have HBF := Lib.hid (HB2.out.trans (HB4.out.mono HB2.out.size))
    have HA4 := Lib.hid (HA2.out.below HB4.out hg2)
    have k0 : w4.cell? ⟨w.heap.size, 0, none⟩ = some (.int .i64 16) := (HA4.out.cell 0).trans HK0.out
    have k1 : w4.cell? ⟨w.heap.size, 1, none⟩ = some (.int .i64 f.seq) := HA4.out.cell 1
    have k2 : w4.cell? ⟨w.heap.size, 2, none⟩ = some (.int .i64 f.got) := HA4.out.cell 2
    have k3 : w4.cell? ⟨w.heap.size, 3, none⟩ = some (.int .i64 f.stream) := HA4.out.cell 3
    have k4 : w4.cell? ⟨w.heap.size, 4, none⟩ = some (.int .i64 f.amount) := HA4.out.cell 4
    have k5 : w4.cell? ⟨w.heap.size, 5, none⟩ = some (.int .i64 f.code) := HA4.out.cell 5
    have k6 : w4.cell? ⟨w.heap.size, 6, none⟩ = some (.string f.who) := HA4.out.cell 6
    have k7 : w4.cell? ⟨w.heap.size, 7, none⟩ = some (.string f.name) := HA4.out.cell 7
    have k9 : w4.cell? ⟨w.heap.size, 9, none⟩ = some (.slice f.ba m f.bc) := HA4.out.cell 9
    clear HSM HRC HRK HS HBD HZL HC2 HA2 HK0
    go_wp2_with fail
    all_goals
      go_ret
      exact ⟨ret_bool (by rw [HM.out, Bool.eq_iff_iff]; simp; all_goals omega), HBF⟩
set_option maxRecDepth 100000 in
set_option maxHeartbeats 8000000 in
theorem rform_17 (f : Fr) (hk : f.kind = 17) : RForm f (valid f) := by
  intro w v hv hf
  obtain ⟨m, HN⟩ : ∃ m, Hid (f.bs.length = m) := ⟨_, rfl⟩
  have HV : Hid (v = .agg (f.cells m).toArray) := Lib.hid (by rw [hv.out, ← HN.out]; rfl)
  have HF := Lib.hid hf
  have HU : Hid (used f.kind = [0, 4, 6]) := Lib.hid (by rw [hk, used_17])
  have HRC : Hid (∀ (w : World) (v : Value), Hid (v = f.v) → f.ok w w.heap.size → Calls Tryd.prog 16 #[v] w fun e w' => ∃ A, e = .returned (.tuple #[.string ⟨#[113, 98, 116]⟩, .slice A 3 3]) ∧ Hid (F.CsR w' w'.heap.size A ((used f.kind).map (cellF f)) ∧ Below w.heap.size w w')) := Lib.hid (fun w v hv hf => by
    have h := rcells_every f w v hv hf
    have e1 : (⟨(layL f.kind).toArray⟩ : ByteArray) = ⟨#[113, 98, 116]⟩ := by rw [hk]; rfl
    have e2 : (used f.kind).length = 3 := by rw [HU.out]; rfl
    rw [e1, e2] at h
    exact h)
  have HRK : Hid (∀ (A : Option Addr) (w : World), F.CsR w w.heap.size A ((used f.kind).map (cellF f)) → Calls Tryd.prog 52 #[.int .i64 17, .slice A 3 3] w (RK 17 ((used f.kind).map (cellF f)) w)) := Lib.hid (fun A w hc => by
    have hw := HF.out.weight
    have h := rkind_every 17 A 3 ((used f.kind).map (cellF f)) w (by rw [used_17]; simp) (by rw [List.length_map, hk]) hc (cells_all_ok HF.out)
    have e2 : (used 17).length = 3 := by rw [used_17]; rfl
    rw [e2] at h
    exact h)
  have HKD := Lib.hid hk
  clear hv hf hk
  go_enter Tryd.func42, Tryd.ntmps42
  go_wp2_with (first
    | (refine wl_box rfl 25 (.tmp 0) rfl (f.cells m) HV.out ?_
       intro w1 HA1 HB1 HZ1
       have hz1 : w.heap.size < w1.heap.size := by rw [HZ1.out]; omega)
    | (refine wl_load rfl 25 (.tmp 1) rfl w.heap.size rfl 25 _ _ HA1.out under25.choose_spec rfl size25 ?_
       intro vp HVP))
  have HVP2 : Hid (vp = f.v) := Lib.hid (by rw [HVP.out, ← HN.out]; rfl)
  have HF1 : Hid (f.ok w1 w1.heap.size) := Lib.hid ((HF.out.below HB1.out).more (Nat.le_of_lt hz1))
  with_reducible refine (HRC.out w1 vp HVP2 HF1.out).mono ?_
  rintro e w2 ⟨A2, rfl, HV2⟩
  have HB2 := Lib.hid (HB1.out.trans (HV2.out.2.mono HB1.out.size))
  have HA2 := Lib.hid (HA1.out.below HV2.out.2 hz1)
  have HF2 : Hid (f.ok w2 w2.heap.size) := Lib.hid ((HF1.out.below HV2.out.2).more HV2.out.2.size)
  have HC2 := Lib.hid HV2.out.1
  have hz2 : w1.heap.size ≤ w2.heap.size := HV2.out.2.size
  clear HV2 HVP HVP2 HA1 HB1 HZ1
  have hg2 : w.heap.size < w2.heap.size := by omega
  have HK0 : Hid ((f.cells m)[0]? = some (.int .i64 17)) := Lib.hid (by rw [← HKD.out]; rfl)
  have HS : Hid (∀ w', Below w2.heap.size w2 w' → w'.cell? ⟨w.heap.size, 0, none⟩ = some (.int .i64 17) ∧ w'.rangeAt w.heap.size 0 (f.cells m)) := Lib.hid (fun w' hb => ⟨((HA2.out.below hb hg2).cell 0).trans HK0.out, (HA2.out.below hb hg2).range (es := []) (by simp)⟩)
  have HZL : Hid ((Tryd.prog.info? 25).map (·.size) = some (f.cells m).length) := Lib.hid size25
  have HBD : Hid (Below w2.heap.size w2 w2.drew) := Lib.hid ((Below.refl _ _).drew)
  go_wp2_with fail
  refine wp_region_held_drew (S := fun w' => w'.cell? ⟨w.heap.size, 0, none⟩ = some (.int .i64 17) ∧ w'.rangeAt w.heap.size 0 (f.cells m)) (by kernel_rfl) (HS.out _ HBD.out) (fun hHeld => ?_)
  refine tke 0 (.string ⟨#[113, 98, 116]⟩) rfl (Or.inl ⟨by kernel_rfl, ?_⟩) ?_
  · (intro w' hSw; (try dsimp only at hSw); go_simp)
  simp only [getElem_toArray, getElem_cons_zero, Act.put, setIfInBounds_toArray, set_cons_zero, set_cons_succ]
  refine tke 1 (.bool false) rfl (Or.inl ⟨by kernel_rfl, ?_⟩) ?_
  · (intro w' hSw; (try dsimp only at hSw); go_simp)
  simp only [getElem_toArray, getElem_cons_succ, getElem_cons_zero, Act.put, setIfInBounds_toArray, set_cons_zero, set_cons_succ]
  refine tke 2 (.bool false) rfl (Or.inl ⟨by kernel_rfl, ?_⟩) ?_
  · (intro w' hSw; (try dsimp only at hSw); go_simp)
  simp only [getElem_toArray, getElem_cons_succ, getElem_cons_zero, Act.put, setIfInBounds_toArray, set_cons_zero, set_cons_succ]
  refine tke 3 (.agg (f.cells m).toArray) rfl (yieldsIf_load_mid (by kernel_rfl) 25 (.tmp 1) rfl w.heap.size 0 rfl (f.cells m) _ (fun w' hSw => hSw.2) under25.choose_spec rfl HZL.out) ?_
  simp only [getElem_toArray, getElem_cons_succ, getElem_cons_zero, Act.put, setIfInBounds_toArray, set_cons_zero, set_cons_succ]
  refine tke 4 (.pointer (some ⟨w.heap.size, 0, none⟩)) rfl (Or.inl ⟨by kernel_rfl, ?_⟩) ?_
  · (intro w' hSw; (try dsimp only at hSw); go_simp)
  simp only [getElem_toArray, getElem_cons_succ, getElem_cons_zero, Act.put, setIfInBounds_toArray, set_cons_zero, set_cons_succ]
  refine tke 5 (.int .i64 17) rfl (Or.inl ⟨by kernel_rfl, ?_⟩) ?_
  · (intro w' hSw; (try dsimp only at hSw); go_simp)
  simp only [getElem_toArray, getElem_cons_succ, getElem_cons_zero, Act.put, setIfInBounds_toArray, set_cons_zero, set_cons_succ]
  refine tke 6 (.slice A2 3 3) rfl (Or.inl ⟨by kernel_rfl, ?_⟩) ?_
  · (intro w' hSw; (try dsimp only at hSw); go_simp)
  simp only [getElem_toArray, getElem_cons_succ, getElem_cons_zero, Act.put, setIfInBounds_toArray, set_cons_zero, set_cons_succ]
  refine wpAnyH_ready (rs := [7]) (by kernel_rfl) (by simp) ?_
  refine AllReadyH.cons rfl (fun K hK => ?_) AllReadyH.nil
  go_simp
  with_reducible refine (HRK.out A2 w2.drew (csr_more (HC2.out.keep HBD.out) HBD.out.size)).mono ?_
  rintro e w3 ⟨G, rfl, HV3⟩
  have HB3 : Hid (Below w2.heap.size w2 w3) := Lib.hid (HBD.out.trans (HV3.out.2.2.mono HBD.out.size))
  have HG3 : Hid (G.ok w3 w3.heap.size) := Lib.hid HV3.out.2.1
  have HGP : Hid (G.pl = selfF f) := Lib.hid (by rw [HV3.out.1, selfF, HKD.out])
  refine hK.out _ _ (HS.out _ HB3.out) (fun hHeld => ?_)
  clear hK K HV3
  (try simp only [getElem_toArray, getElem_cons_succ, getElem_cons_zero, Act.put, setIfInBounds_toArray, set_cons_zero, set_cons_succ])
  refine wpAnyH_ready (rs := [8]) (by kernel_rfl) (by simp) ?_
  refine AllReadyH.cons rfl (fun K hK => ?_) AllReadyH.nil
  go_simp
  have HSM := Lib.hid (rsame_any f G (.agg (f.cells m).toArray) G.v w3 (by rw [← HN.out]; rfl) rfl ((HF2.out.below HB3.out).more HB3.out.size) HG3.out)
  cases hs : sameB f G with
  | false =>
    rw [hs] at HSM
    have HM : Hid (valid f = false) := Lib.hid (by
      rw [Bool.eq_false_iff]
      intro hv
      have h1 := self_valid hv HF.out.weight
      rw [← HGP.out] at h1
      rw [(sameB_iff f G).2 h1] at hs
      cases hs)
    clear hs
    with_reducible refine HSM.out.mono ?_
    rintro e w4 ⟨rfl, HV4⟩
    have HB4 : Hid (Below w2.heap.size w2 w4) := Lib.hid (HB3.out.trans (HV4.out.mono HB3.out.size))
    refine hK.out _ _ (HS.out _ HB4.out) (fun hHeld => ?_)
    clear hK K
    (try simp only [getElem_toArray, getElem_cons_succ, getElem_cons_zero, Act.put, setIfInBounds_toArray, set_cons_zero, set_cons_succ])
    refine tke 9 (.bool true) rfl (Or.inl ⟨by kernel_rfl, ?_⟩) ?_
    · (intro w' hSw; (try dsimp only at hSw); go_simp)
    simp only [getElem_toArray, getElem_cons_succ, getElem_cons_zero, Act.put, setIfInBounds_toArray, set_cons_zero, set_cons_succ]
    refine tke 10 (.bool true) rfl (Or.inl ⟨by kernel_rfl, ?_⟩) ?_
    · (intro w' hSw; (try dsimp only at hSw); go_simp)
    simp only [getElem_toArray, getElem_cons_succ, getElem_cons_zero, Act.put, setIfInBounds_toArray, set_cons_zero, set_cons_succ]
    refine wpAnyH_done (by kernel_rfl) ?_ _
    (try simp only [getElem_toArray, getElem_cons_succ, getElem_cons_zero, Act.put, setIfInBounds_toArray, set_cons_zero, set_cons_succ])
    clear hHeld
    have HBF := Lib.hid (HB2.out.trans (HB4.out.mono HB2.out.size))
    go_wp2_with fail
    go_ret
    exact ⟨by rw [HM.out]; rfl, HBF⟩
  | true =>
    rw [hs] at HSM
    have HM : Hid (valid f = decide ((1 ≤ f.seq ∧ f.seq ≤ 1099511627776) ∧ (0 ≤ f.code ∧ f.code ≤ 13) ∧ (1 ≤ (f.name.size : Int) ∧ (f.name.size : Int) ≤ 63))) := Lib.hid (by
      rw [valid_own (((sameB_iff f G).1 hs).trans HGP.out) (by rw [HU.out]; simp), HU.out, HKD.out, Bool.eq_iff_iff]
      (try rw [← HN.out])
      simp [lo, hi, ext, blo, bhi, wrap64]
      all_goals omega)
    clear hs
    with_reducible refine HSM.out.mono ?_
    rintro e w4 ⟨rfl, HV4⟩
    have HB4 : Hid (Below w2.heap.size w2 w4) := Lib.hid (HB3.out.trans (HV4.out.mono HB3.out.size))
    refine hK.out _ _ (HS.out _ HB4.out) (fun hHeld => ?_)
    clear hK K
    (try simp only [getElem_toArray, getElem_cons_succ, getElem_cons_zero, Act.put, setIfInBounds_toArray, set_cons_zero, set_cons_succ])
    refine tke 9 (.bool false) rfl (Or.inl ⟨by kernel_rfl, ?_⟩) ?_
    · (intro w' hSw; (try dsimp only at hSw); go_simp)
    simp only [getElem_toArray, getElem_cons_succ, getElem_cons_zero, Act.put, setIfInBounds_toArray, set_cons_zero, set_cons_succ]
    refine tke 10 (.bool false) rfl (Or.inl ⟨by kernel_rfl, ?_⟩) ?_
    · (intro w' hSw; (try dsimp only at hSw); go_simp)
    simp only [getElem_toArray, getElem_cons_succ, getElem_cons_zero, Act.put, setIfInBounds_toArray, set_cons_zero, set_cons_succ]
    refine wpAnyH_done (by kernel_rfl) ?_ _
    (try simp only [getElem_toArray, getElem_cons_succ, getElem_cons_zero, Act.put, setIfInBounds_toArray, set_cons_zero, set_cons_succ])
    clear hHeld
    have HBF := Lib.hid (HB2.out.trans (HB4.out.mono HB2.out.size))
    have HA4 := Lib.hid (HA2.out.below HB4.out hg2)
    have k0 : w4.cell? ⟨w.heap.size, 0, none⟩ = some (.int .i64 17) := (HA4.out.cell 0).trans HK0.out
    have k1 : w4.cell? ⟨w.heap.size, 1, none⟩ = some (.int .i64 f.seq) := HA4.out.cell 1
    have k2 : w4.cell? ⟨w.heap.size, 2, none⟩ = some (.int .i64 f.got) := HA4.out.cell 2
    have k3 : w4.cell? ⟨w.heap.size, 3, none⟩ = some (.int .i64 f.stream) := HA4.out.cell 3
    have k4 : w4.cell? ⟨w.heap.size, 4, none⟩ = some (.int .i64 f.amount) := HA4.out.cell 4
    have k5 : w4.cell? ⟨w.heap.size, 5, none⟩ = some (.int .i64 f.code) := HA4.out.cell 5
    have k6 : w4.cell? ⟨w.heap.size, 6, none⟩ = some (.string f.who) := HA4.out.cell 6
    have k7 : w4.cell? ⟨w.heap.size, 7, none⟩ = some (.string f.name) := HA4.out.cell 7
    have k9 : w4.cell? ⟨w.heap.size, 9, none⟩ = some (.slice f.ba m f.bc) := HA4.out.cell 9
    clear HSM HRC HRK HS HBD HZL HC2 HA2 HK0
    go_wp2_with fail
    all_goals
      go_ret
      exact ⟨ret_bool (by rw [HM.out, Bool.eq_iff_iff]; simp; all_goals omega), HBF⟩
end Go.Proofs.YtmhfhdbaeijcfaaDoor
