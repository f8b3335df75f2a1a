/- The law FrameUnlike: frames are the same just if their bytes are; a byte changed is told. -/
import Derived.Test.YtmhfhdbaeijcfaaDoorUna
import Derived.Test.YtmhfhdbaeijcfaaDoorGF
namespace Go.Proofs.YtmhfhdbaeijcfaaDoor
open Go.RowKit
open Go.Proofs.YtmhfhdbaeijcfaaDoor.H
theorem two_ranges {W : World} {bx m m2 : Nat} {f g : Fr} {at_ : Int} {tu : UInt8} (h : Row W bx 52 (cells22x f m g m2 at_ tu)) : W.rangeAt bx 0 (f.cells m) ∧ W.rangeAt bx 10 (g.cells m2) ∧ W.cell? ⟨bx, 20, none⟩ = some (.int .i64 at_) ∧ W.cell? ⟨bx, 21, none⟩ = some (.int .u8 (tu.toNat : Int)) := by
  refine ⟨fun k v hk => ?_, fun k v hk => ?_, (h.cell 20).trans rfl, (h.cell 21).trans rfl⟩
  · have hl : k < (f.cells m).length := (List.getElem?_eq_some_iff.1 hk).1
    rw [h.cell, Nat.zero_add]
    unfold cells22x
    rw [List.append_assoc, List.getElem?_append_left hl]
    exact hk
  · have hl : k < (g.cells m2).length := (List.getElem?_eq_some_iff.1 hk).1
    rw [h.cell]
    unfold cells22x
    have e : (f.cells m).length = 10 := rfl
    rw [List.append_assoc, List.getElem?_append_right (by rw [e]; omega), e, Nat.add_sub_cancel_left, List.getElem?_append_left hl]
    exact hk
set_option maxRecDepth 100000 in
set_option maxHeartbeats 4000000 in
theorem unlike_any (f g : Fr) (m m2 : Nat) (at_ : Int) (tu : UInt8) (v : Value) (E : Nat → Value) (a : Addr) (w : World) (hm : Hid (f.bs.length = m)) (hm2 : Hid (g.bs.length = m2)) (hv : Hid (v = .agg (cells22x f m g m2 at_ tu).toArray)) (hE : Env w E 159 (.pointer (some a))) (hE5 : F.Errs w E) (hf : f.ok w w.heap.size) (hg : g.ok w w.heap.size) :
    Calls Tryd.prog 5 #[v] w fun e w' => e = .returned (.bool true) ∧ Below w.heap.size w w' := by
  have HE := Lib.hid hE
  have HE5 := Lib.hid hE5
  have HF := Lib.hid hf
  have HG := Lib.hid hg
  have h20 := hE.size
  have HVf : Hid (Value.agg (f.cells m).toArray = f.v) := Lib.hid (by unfold Fr.v; rw [hm.out])
  have HVg : Hid (Value.agg (g.cells m2).toArray = g.v) := Lib.hid (by unfold Fr.v; rw [hm2.out])
  have HLf : Hid ((Tryd.prog.info? 25).map (·.size) = some (f.cells m).length) := Lib.hid size25
  have HLg : Hid ((Tryd.prog.info? 25).map (·.size) = some (g.cells m2).length) := Lib.hid size25
  clear hE hE5 hf hg
  obtain ⟨bx, HBX⟩ : ∃ bx, H.Shut (w.heap.size = bx) := ⟨_, ⟨rfl⟩⟩
  have hbx : w.heap.size ≤ bx := by rw [HBX.out]; exact Nat.le_refl _
  go_enter Tryd.func5, Tryd.ntmps5
  go_wp2_with (first
    | (refine wl_box rfl 52 (.tmp 0) rfl (cells22x f m g m2 at_ tu) hv.out ?_
       intro w1 HR1 HB1 HZ1))
  have hz1 : w1.heap.size = bx + 1 := by rw [HZ1.out, HBX.out]
  rw [HBX.out] at HR1 ⊢
  have HE1 := Lib.hid (HE.out.below h20 HB1.out)
  with_reducible refine (alive_any E a w1 HE1.out).mono ?_
  rintro e w2 ⟨rfl, HB12⟩
  have hz2 : w1.heap.size ≤ w2.heap.size := HB12.out.size
  have hbx2 : bx < w2.heap.size := by omega
  have HR2 := Lib.hid (HR1.out.below HB12.out (by omega))
  have HB2 : Hid (Below w.heap.size w w2) := Lib.hid (HB1.out.trans (HB12.out.mono (by omega)))
  have HE2 := Lib.hid (HE.out.below h20 HB2.out)
  have HF2 := Lib.hid ((HF.out.below HB2.out).more HB2.out.size)
  have HRA2 := Lib.hid (two_ranges HR2.out)
  clear HR1 HZ1 HB1 HE1 HB12
  go_wp2_with (first
    | (refine wl_loadM rfl (.tmp 15) rfl bx 0 rfl (f.cells m) HRA2.out.1 HLf.out ?_
       intro vq HVQ))
  have HVQ2 : Hid (vq = f.v) := Lib.hid (HVQ.out.trans HVf.out)
  with_reducible refine (fput_any f vq E 159 (.pointer (some a)) w2 HVQ2 HE2.out HF2.out).mono ?_
  rintro e w3 ⟨x1, er1, rfl, HV3⟩
  have HB3 : Hid (Below w.heap.size w w3) := Lib.hid (HB2.out.trans (HV3.out.1.mono HB2.out.size))
  have hz3 : w2.heap.size ≤ w3.heap.size := HV3.out.1.size
  have HR3 := Lib.hid (HR2.out.below HV3.out.1 hbx2)
  have HE3 := Lib.hid (HE.out.below h20 HB3.out)
  have HG3 := Lib.hid ((HG.out.below HB3.out).more HB3.out.size)
  have HRA3 := Lib.hid (two_ranges HR3.out)
  clear HVQ HVQ2
  go_wp2_with (first
    | (refine wl_loadM rfl (.tmp 21) rfl bx 10 rfl (g.cells m2) HRA3.out.2.1 HLg.out ?_
       intro vq HVQ))
  have HVQ2 : Hid (vq = g.v) := Lib.hid (HVQ.out.trans HVg.out)
  with_reducible refine (fput_any g vq E 159 (.pointer (some a)) w3 HVQ2 HE3.out HG3.out).mono ?_
  rintro e w4 ⟨x2, er2, rfl, HV4⟩
  have HB4 : Hid (Below w.heap.size w w4) := Lib.hid (HB3.out.trans (HV4.out.1.mono HB3.out.size))
  have hz4 : w3.heap.size ≤ w4.heap.size := HV4.out.1.size
  have HR4 := Lib.hid (HR3.out.below HV4.out.1 (by omega))
  have HRA4 := Lib.hid (two_ranges HR4.out)
  obtain ⟨B, HBL⟩ : ∃ B, H.Shut (sameB f g = B) := ⟨_, ⟨rfl⟩⟩
  have HF4 := Lib.hid ((HF.out.below HB4.out).more HB4.out.size)
  have HG4 := Lib.hid ((HG.out.below HB4.out).more HB4.out.size)
  have HC26 : Hid (∀ w', Below w4.heap.size w4 w' → Calls Tryd.prog 26 #[.agg (f.cells m).toArray, .agg (g.cells m2).toArray] w' fun e w'' => e = .returned (.bool B) ∧ Hid (Below w4.heap.size w4 w'')) := Lib.hid (fun w' hb => by
    rw [← HBL.out]
    refine (same_any f g _ _ w' HVf.out HVg.out ((HF4.out.below hb).more hb.size) ((HG4.out.below hb).more hb.size)).mono ?_
    rintro e w'' ⟨h1, h2⟩
    exact ⟨h1, Lib.hid (hb.trans (h2.out.mono hb.size))⟩)
  have HC22 : Hid (∀ w', Below w4.heap.size w4 w' → Calls Tryd.prog 22 #[.agg (f.cells m).toArray, .agg (g.cells m2).toArray] w' fun e w'' => e = .returned (.bool B) ∧ Hid (Below w4.heap.size w4 w'')) := Lib.hid (fun w' hb => by
    rw [← HBL.out]
    refine (rsame_any f g _ _ w' HVf.out HVg.out ((HF4.out.below hb).more hb.size) ((HG4.out.below hb).more hb.size)).mono ?_
    rintro e w'' ⟨h1, h2⟩
    exact ⟨h1, Lib.hid (hb.trans (h2.out.mono hb.size))⟩)
  have HS4 : Hid (∀ w', Below w4.heap.size w4 w' → w'.rangeAt bx 0 (f.cells m) ∧ w'.rangeAt bx 10 (g.cells m2)) := Lib.hid (fun w' hb => ⟨range_below HRA4.out.1 hb, range_below HRA4.out.2.1 hb⟩)
  have HD4 : Hid (Below w4.heap.size w4 w4.drew) := Lib.hid ((Below.refl _ _).drew)
  clear HVQ HVQ2 HRA2 HRA3 HE2 HE3 HF2 HG3 HR2 HR3
  go_wp2_with fail
  refine wp_region_held_drew (S := fun w' => w'.rangeAt bx 0 (f.cells m) ∧ w'.rangeAt bx 10 (g.cells m2)) (by kernel_rfl) (HS4.out _ HD4.out) (fun hHeld => ?_)
  refine wpAnyH_take (i := 0) (v := .pointer (some ⟨bx, 0, none⟩)) rfl (by kernel_rfl) (by kernel_rfl) (by kernel_rfl) (fun _ _ _ h => h) (Or.inl ⟨by kernel_rfl, ?_⟩) (by assumption) ?_
  · (intro w' hSw; clear hSw hHeld; go_simp)
  simp only [List.getElem_toArray, List.getElem_cons_zero, Act.put, List.setIfInBounds_toArray, List.set_cons_zero, List.set_cons_succ]
  refine wpAnyH_take (i := 1) (v := .agg (f.cells m).toArray) rfl (by kernel_rfl) (by kernel_rfl) (by kernel_rfl) (fun _ _ _ h => h) (yieldsIf_load_mid (by kernel_rfl) 25 (.tmp 26) rfl bx 0 rfl (f.cells m) _ (fun w' hSw => hSw.1) under25.choose_spec rfl HLf.out) (by assumption) ?_
  simp only [List.getElem_toArray, List.getElem_cons_succ, List.getElem_cons_zero, Act.put, List.setIfInBounds_toArray, List.set_cons_zero, List.set_cons_succ]
  refine wpAnyH_take (i := 2) (v := .pointer (some ⟨bx, 10, none⟩)) rfl (by kernel_rfl) (by kernel_rfl) (by kernel_rfl) (fun _ _ _ h => h) (Or.inl ⟨by kernel_rfl, ?_⟩) (by assumption) ?_
  · (intro w' hSw; clear hSw hHeld; go_simp)
  simp only [List.getElem_toArray, List.getElem_cons_succ, List.getElem_cons_zero, Act.put, List.setIfInBounds_toArray, List.set_cons_zero, List.set_cons_succ]
  refine wpAnyH_take (i := 3) (v := .agg (g.cells m2).toArray) rfl (by kernel_rfl) (by kernel_rfl) (by kernel_rfl) (fun _ _ _ h => h) (yieldsIf_load_mid (by kernel_rfl) 25 (.tmp 28) rfl bx 10 rfl (g.cells m2) _ (fun w' hSw => hSw.2) under25.choose_spec rfl HLg.out) (by assumption) ?_
  simp only [List.getElem_toArray, List.getElem_cons_succ, List.getElem_cons_zero, Act.put, List.setIfInBounds_toArray, List.set_cons_zero, List.set_cons_succ]
  refine wpAnyH_take (i := 5) (v := .pointer (some ⟨bx, 0, none⟩)) rfl (by kernel_rfl) (by kernel_rfl) (by kernel_rfl) (fun _ _ _ h => h) (Or.inl ⟨by kernel_rfl, ?_⟩) (by assumption) ?_
  · (intro w' hSw; clear hSw hHeld; go_simp)
  simp only [List.getElem_toArray, List.getElem_cons_succ, List.getElem_cons_zero, Act.put, List.setIfInBounds_toArray, List.set_cons_zero, List.set_cons_succ]
  refine wpAnyH_take (i := 6) (v := .agg (f.cells m).toArray) rfl (by kernel_rfl) (by kernel_rfl) (by kernel_rfl) (fun _ _ _ h => h) (yieldsIf_load_mid (by kernel_rfl) 25 (.tmp 31) rfl bx 0 rfl (f.cells m) _ (fun w' hSw => hSw.1) under25.choose_spec rfl HLf.out) (by assumption) ?_
  simp only [List.getElem_toArray, List.getElem_cons_succ, List.getElem_cons_zero, Act.put, List.setIfInBounds_toArray, List.set_cons_zero, List.set_cons_succ]
  refine wpAnyH_take (i := 7) (v := .pointer (some ⟨bx, 10, none⟩)) rfl (by kernel_rfl) (by kernel_rfl) (by kernel_rfl) (fun _ _ _ h => h) (Or.inl ⟨by kernel_rfl, ?_⟩) (by assumption) ?_
  · (intro w' hSw; clear hSw hHeld; go_simp)
  simp only [List.getElem_toArray, List.getElem_cons_succ, List.getElem_cons_zero, Act.put, List.setIfInBounds_toArray, List.set_cons_zero, List.set_cons_succ]
  refine wpAnyH_take (i := 8) (v := .agg (g.cells m2).toArray) rfl (by kernel_rfl) (by kernel_rfl) (by kernel_rfl) (fun _ _ _ h => h) (yieldsIf_load_mid (by kernel_rfl) 25 (.tmp 33) rfl bx 10 rfl (g.cells m2) _ (fun w' hSw => hSw.2) under25.choose_spec rfl HLg.out) (by assumption) ?_
  simp only [List.getElem_toArray, List.getElem_cons_succ, List.getElem_cons_zero, Act.put, List.setIfInBounds_toArray, List.set_cons_zero, List.set_cons_succ]
  refine wpAnyH_ready (rs := [4]) (by kernel_rfl) (by simp) ?_
  refine AllReadyH.cons rfl (fun K hK => ?_) AllReadyH.nil
  go_simp
  with_reducible refine (HC26.out _ HD4.out).mono ?_
  rintro e w5 ⟨rfl, HV5⟩
  refine hK.out _ _ (HS4.out _ HV5.out) (fun hHeld => ?_)
  clear hK K
  (try simp only [List.getElem_toArray, List.getElem_cons_succ, List.getElem_cons_zero, Act.put, List.setIfInBounds_toArray, List.set_cons_zero, List.set_cons_succ])
  refine wpAnyH_ready (rs := [9]) (by kernel_rfl) (by simp) ?_
  refine AllReadyH.cons rfl (fun K hK => ?_) AllReadyH.nil
  go_simp
  with_reducible refine (HC22.out _ HV5.out).mono ?_
  rintro e w6 ⟨rfl, HV6⟩
  refine hK.out _ _ (HS4.out _ HV6.out) (fun hHeld => ?_)
  clear hK K
  (try simp only [List.getElem_toArray, List.getElem_cons_succ, List.getElem_cons_zero, Act.put, List.setIfInBounds_toArray, List.set_cons_zero, List.set_cons_succ])
  refine wpAnyH_take (i := 10) (v := .bool false) rfl (by kernel_rfl) (by kernel_rfl) (by kernel_rfl) (fun _ _ _ h => h) (Or.inl ⟨by kernel_rfl, ?_⟩) (by assumption) ?_
  · (intro w' hSw; clear hSw hHeld; go_simp)
  simp only [List.getElem_toArray, List.getElem_cons_succ, List.getElem_cons_zero, Act.put, List.setIfInBounds_toArray, List.set_cons_zero, List.set_cons_succ]
  refine wpAnyH_done (by kernel_rfl) ?_ _
  (try simp only [List.getElem_toArray, List.getElem_cons_succ, List.getElem_cons_zero, Act.put, List.setIfInBounds_toArray, List.set_cons_zero, List.set_cons_succ])
  have HB6 : Hid (Below w.heap.size w w6) := Lib.hid (HB4.out.trans (HV6.out.mono HB4.out.size))
  have hz6 : w4.heap.size ≤ w6.heap.size := HV6.out.size
  clear HC26 HC22 HS4 HD4
  obtain ⟨HV3a, HV3b⟩ := HV3.out
  rcases HV3b with ⟨hvf, rfl⟩ | ⟨hvf, rfl, hown1⟩
  · clear HV3 HV4
    go_wp2_with fail
    go_ret
    exact ⟨rfl, HB6.out⟩
  obtain ⟨HV4a, HV4b⟩ := HV4.out
  rcases HV4b with ⟨hvg, rfl⟩ | ⟨hvg, rfl, hown2⟩
  · clear HV3 HV4
    go_wp2_with fail
    go_ret
    exact ⟨rfl, HB6.out⟩
  have HO1 := Lib.hid hown1
  have HO2 := Lib.hid hown2
  have HA34 := Lib.hid HV4a
  have HGV := Lib.hid hvf
  have HGW := Lib.hid hvg
  clear HV3 HV4 HV3a HV4a hown1 hown2
  obtain ⟨X1, c1, rfl, hl1, hc1, hcm1, hr1, _⟩ := own_slice HO1.out
  obtain ⟨X2, c2, rfl, hl2, hc2, hcm2, hr2, _⟩ := own_slice HO2.out
  obtain ⟨n4, HN1⟩ : ∃ n4, H.Shut (total f = n4) := ⟨_, ⟨rfl⟩⟩
  obtain ⟨n2, HN2⟩ : ∃ n2, H.Shut (total g + 4 = n2) := ⟨_, ⟨rfl⟩⟩
  rw [HN1.out] at hl1 hc1 ⊢
  rw [HN2.out] at hl2 hc2 ⊢
  have hlen := putB_len7 hvf HF.out.fit
  rw [hl1] at hlen
  have HL1 := Lib.hid hl1
  have HL2 := Lib.hid hl2
  have HX1 : Hid (Rd w6 w6.heap.size X1 ((putB f).map bv)) := Lib.hid (((hr1.below HA34.out).more (by omega)).below HV6.out |>.more (by omega))
  have HX2 : Hid (Rd w6 w6.heap.size X2 ((putB g).map bv)) := Lib.hid ((hr2.below HV6.out).more (by omega))
  obtain ⟨s1, HS1⟩ : ∃ s, H.Shut (ByteArray.mk (putB f).toArray = s) := ⟨_, ⟨rfl⟩⟩
  obtain ⟨s2, HS2⟩ : ∃ s, H.Shut (ByteArray.mk (putB g).toArray = s) := ⟨_, ⟨rfl⟩⟩
  have hq : (s1.toList == s2.toList) = B := by
    rw [← HBL.out, ← HS1.out, ← HS2.out, ByteArray.toList_eq, ByteArray.toList_eq]
    show ((putB f) == (putB g)) = sameB f g
    cases hb : sameB f g with
    | true =>
      have e := (sameB_iff f g).1 hb
      have e2 : putB f = putB g := by rw [← putB_pl f, e, putB_pl]
      rw [e2]
      simp
    | false =>
      have hne : putB f ≠ putB g := fun e => by
        rw [(sameB_iff f g).2 (putB_inj hvf HF.out.fit hvg HG.out.fit e)] at hb
        cases hb
      simpa using hne
  have HQ := Lib.hid hq
  have HF6 := Lib.hid ((HF.out.below HB6.out).more HB6.out.size)
  have HG6 := Lib.hid ((HG.out.below HB6.out).more HB6.out.size)
  have HR6 := Lib.hid (HR4.out.below HV6.out (by omega))
  have HRA6 := Lib.hid (two_ranges HR6.out)
  have HC26b : Hid (∀ w', Below w6.heap.size w6 w' → Calls Tryd.prog 26 #[.agg (f.cells m).toArray, .agg (g.cells m2).toArray] w' fun e w'' => e = .returned (.bool B) ∧ Hid (Below w6.heap.size w6 w'')) := Lib.hid (fun w' hb => by
    rw [← HBL.out]
    refine (same_any f g _ _ w' HVf.out HVg.out ((HF6.out.below hb).more hb.size) ((HG6.out.below hb).more hb.size)).mono ?_
    rintro e w'' ⟨h1, h2⟩
    exact ⟨h1, Lib.hid (hb.trans (h2.out.mono hb.size))⟩)
  have HS6 : Hid (∀ w', Below w6.heap.size w6 w' → w'.rangeAt bx 0 (f.cells m) ∧ w'.rangeAt bx 10 (g.cells m2) ∧ (convert 23 9 (.slice X1 (n4 + 4) c1)).run Tryd.prog w' = .ok (.string s1) w' ∧ (convert 23 9 (.slice X2 n2 c2)).run Tryd.prog w' = .ok (.string s2) w') := Lib.hid (fun w' hb => ⟨range_below HRA6.out.1 hb, range_below HRA6.out.2.1 hb, by rw [← HS1.out]; exact Rd.toStr (HX1.out.below hb) (n4 + 4) c1 HL1.out, by rw [← HS2.out]; exact Rd.toStr (HX2.out.below hb) n2 c2 HL2.out⟩)
  have HD6 : Hid (Below w6.heap.size w6 w6.drew) := Lib.hid ((Below.refl _ _).drew)
  clear hr1 hr2 hvf hvg HO1 HO2
  go_wp2_with fail
  refine wp_region_held_drew (S := fun w' => w'.rangeAt bx 0 (f.cells m) ∧ w'.rangeAt bx 10 (g.cells m2) ∧ (convert 23 9 (.slice X1 (n4 + 4) c1)).run Tryd.prog w' = .ok (.string s1) w' ∧ (convert 23 9 (.slice X2 n2 c2)).run Tryd.prog w' = .ok (.string s2) w') (by kernel_rfl) (HS6.out _ HD6.out) (fun hHeld => ?_)
  refine wpAnyH_take (i := 0) (v := .slice X1 (n4 + 4) c1) rfl (by kernel_rfl) (by kernel_rfl) (by kernel_rfl) (fun _ _ _ h => h) (Or.inl ⟨by kernel_rfl, ?_⟩) (by assumption) ?_
  · (intro w' hSw; clear hSw hHeld; go_simp)
  simp only [List.getElem_toArray, List.getElem_cons_zero, Act.put, List.setIfInBounds_toArray, List.set_cons_zero, List.set_cons_succ]
  refine wpAnyH_take (i := 1) (v := .string s1) rfl (by kernel_rfl) (by kernel_rfl) (by kernel_rfl) (fun _ _ _ h => h) (Or.inl ⟨by kernel_rfl, ?_⟩) (by assumption) ?_
  · (intro w' hSw; have hcv := hSw.2.2.1; clear hSw hHeld; go_simp)
  simp only [List.getElem_toArray, List.getElem_cons_succ, List.getElem_cons_zero, Act.put, List.setIfInBounds_toArray, List.set_cons_zero, List.set_cons_succ]
  refine wpAnyH_take (i := 2) (v := .slice X2 n2 c2) rfl (by kernel_rfl) (by kernel_rfl) (by kernel_rfl) (fun _ _ _ h => h) (Or.inl ⟨by kernel_rfl, ?_⟩) (by assumption) ?_
  · (intro w' hSw; clear hSw hHeld; go_simp)
  simp only [List.getElem_toArray, List.getElem_cons_succ, List.getElem_cons_zero, Act.put, List.setIfInBounds_toArray, List.set_cons_zero, List.set_cons_succ]
  refine wpAnyH_take (i := 3) (v := .string s2) rfl (by kernel_rfl) (by kernel_rfl) (by kernel_rfl) (fun _ _ _ h => h) (Or.inl ⟨by kernel_rfl, ?_⟩) (by assumption) ?_
  · (intro w' hSw; have hcv := hSw.2.2.2; clear hSw hHeld; go_simp)
  simp only [List.getElem_toArray, List.getElem_cons_succ, List.getElem_cons_zero, Act.put, List.setIfInBounds_toArray, List.set_cons_zero, List.set_cons_succ]
  refine wpAnyH_take (i := 4) (v := .bool B) rfl (by kernel_rfl) (by kernel_rfl) (by kernel_rfl) (fun _ _ _ h => h) (Or.inl ⟨by kernel_rfl, ?_⟩) (by assumption) ?_
  · (intro w' hSw; clear hSw hHeld; go_simp)
  simp only [List.getElem_toArray, List.getElem_cons_succ, List.getElem_cons_zero, Act.put, List.setIfInBounds_toArray, List.set_cons_zero, List.set_cons_succ]
  refine wpAnyH_take (i := 5) (v := .pointer (some ⟨bx, 0, none⟩)) rfl (by kernel_rfl) (by kernel_rfl) (by kernel_rfl) (fun _ _ _ h => h) (Or.inl ⟨by kernel_rfl, ?_⟩) (by assumption) ?_
  · (intro w' hSw; clear hSw hHeld; go_simp)
  simp only [List.getElem_toArray, List.getElem_cons_succ, List.getElem_cons_zero, Act.put, List.setIfInBounds_toArray, List.set_cons_zero, List.set_cons_succ]
  refine wpAnyH_take (i := 6) (v := .agg (f.cells m).toArray) rfl (by kernel_rfl) (by kernel_rfl) (by kernel_rfl) (fun _ _ _ h => h) (yieldsIf_load_mid (by kernel_rfl) 25 (.tmp 48) rfl bx 0 rfl (f.cells m) _ (fun w' hSw => hSw.1) under25.choose_spec rfl HLf.out) (by assumption) ?_
  simp only [List.getElem_toArray, List.getElem_cons_succ, List.getElem_cons_zero, Act.put, List.setIfInBounds_toArray, List.set_cons_zero, List.set_cons_succ]
  refine wpAnyH_take (i := 7) (v := .pointer (some ⟨bx, 10, none⟩)) rfl (by kernel_rfl) (by kernel_rfl) (by kernel_rfl) (fun _ _ _ h => h) (Or.inl ⟨by kernel_rfl, ?_⟩) (by assumption) ?_
  · (intro w' hSw; clear hSw hHeld; go_simp)
  simp only [List.getElem_toArray, List.getElem_cons_succ, List.getElem_cons_zero, Act.put, List.setIfInBounds_toArray, List.set_cons_zero, List.set_cons_succ]
  refine wpAnyH_take (i := 8) (v := .agg (g.cells m2).toArray) rfl (by kernel_rfl) (by kernel_rfl) (by kernel_rfl) (fun _ _ _ h => h) (yieldsIf_load_mid (by kernel_rfl) 25 (.tmp 50) rfl bx 10 rfl (g.cells m2) _ (fun w' hSw => hSw.2.1) under25.choose_spec rfl HLg.out) (by assumption) ?_
  simp only [List.getElem_toArray, List.getElem_cons_succ, List.getElem_cons_zero, Act.put, List.setIfInBounds_toArray, List.set_cons_zero, List.set_cons_succ]
  refine wpAnyH_ready (rs := [9]) (by kernel_rfl) (by simp) ?_
  refine AllReadyH.cons rfl (fun K hK => ?_) AllReadyH.nil
  go_simp
  with_reducible refine (HC26b.out _ HD6.out).mono ?_
  rintro e w7 ⟨rfl, HV7⟩
  refine hK.out _ _ (HS6.out _ HV7.out) (fun hHeld => ?_)
  clear hK K
  (try simp only [List.getElem_toArray, List.getElem_cons_succ, List.getElem_cons_zero, Act.put, List.setIfInBounds_toArray, List.set_cons_zero, List.set_cons_succ])
  refine wpAnyH_take (i := 10) (v := .bool false) rfl (by kernel_rfl) (by kernel_rfl) (by kernel_rfl) (fun _ _ _ h => h) (Or.inl ⟨by kernel_rfl, ?_⟩) (by assumption) ?_
  · (intro w' hSw; clear hSw hHeld; go_simp)
  simp only [List.getElem_toArray, List.getElem_cons_succ, List.getElem_cons_zero, Act.put, List.setIfInBounds_toArray, List.set_cons_zero, List.set_cons_succ]
  refine wpAnyH_done (by kernel_rfl) ?_ _
  (try simp only [List.getElem_toArray, List.getElem_cons_succ, List.getElem_cons_zero, Act.put, List.setIfInBounds_toArray, List.set_cons_zero, List.set_cons_succ])
  have HB7 : Hid (Below w.heap.size w w7) := Lib.hid (HB6.out.trans (HV7.out.mono HB6.out.size))
  have hz7 : w6.heap.size ≤ w7.heap.size := HV7.out.size
  clear HC26b HS6 HD6 hq
  have HR7 := Lib.hid (HR6.out.below HV7.out (by omega))
  have HRA7 := Lib.hid (two_ranges HR7.out)
  have hat := HRA7.out.2.2.1
  obtain ⟨p, hp, hp2, hpn⟩ := left_by3 at_ n4 (by omega)
  go_upto_region 12 with fail
  rw [hp]
  clear hp hat
  have hba : Below w7.heap.size w7 (w7.alloc (.cells #[] 5)) := below_alloc w7 _
  have HOA : Hid ((w7.alloc (.cells #[] 5)).ownsRow w7.heap.size 5 1 (.slice (some ⟨w7.heap.size, 0, none⟩) 0 0) 0 []) := Lib.hid (own_emptyN w7 w7.heap.size 5 (Nat.le_refl _))
  have HXA : Hid (Rd (w7.alloc (.cells #[] 5)) w7.heap.size X1 ((putB f).map bv)) := Lib.hid (((HX1.out.below HV7.out).more hz7).below hba)
  have hza : w7.heap.size ≤ (w7.alloc (.cells #[] 5)).heap.size := hba.size
  have HBA : Hid (Below w.heap.size w (w7.alloc (.cells #[] 5))) := Lib.hid (HB7.out.trans (hba.mono HB7.out.size))
  have HRA : Hid (Row (w7.alloc (.cells #[] 5)) bx 52 (cells22x f m g m2 at_ tu)) := Lib.hid (HR7.out.below hba (by omega))
  clear hba
  go_wp2_with (first
    | (refine Go.Proofs.YtmhfhdbaeijcfaaDoor.wl_append rfl (.tmp 64) (.tmp 65) rfl w7.heap.size (.slice (some ⟨w7.heap.size, 0, none⟩) 0 0) 0 [] rfl HOA.out w7.heap.size X1 (n4 + 4) c1 (putB f) rfl HL1.out HXA.out (by omega) hza ?_
       intro v8 w8 HA8))
  have ho8 := HA8.out.1
  rw [Nat.zero_add, List.nil_append] at ho8
  obtain ⟨qc, cc, rfl, hq1, hq2, hcc1, hcc2⟩ := own_pos ho8 (by omega)
  have HO8 := Lib.hid ho8
  have hs8 : (w7.alloc (.cells #[] 5)).heap.size ≤ w8.heap.size := HA8.out.2.size
  have HB8 : Hid (Below w.heap.size w w8) := Lib.hid (HBA.out.grown HA8.out.2 HBA.out.size (fun j hj => ob_ge hj (by omega)))
  have HR8 : Hid (Row w8 bx 52 (cells22x f m g m2 at_ tu)) := Lib.hid (row_grown HRA.out HA8.out.2 (ob_ne (by omega)))
  have hpl : p < (putB f).length := by rw [HL1.out]; exact hpn
  obtain ⟨b0, HB0⟩ : ∃ b0, H.Shut ((putB f)[p]'hpl = b0) := ⟨_, ⟨rfl⟩⟩
  have hc0 : w8.cell? ⟨qc, p, none⟩ = some (.int .u8 (b0.toNat : Int)) := by
    have h1 := HO8.out.cells (g := qc) rfl p (bv b0) (by rw [List.getElem?_map, List.getElem?_eq_getElem hpl, HB0.out]; rfl)
    rw [Addr.add_mid, Nat.zero_add] at h1
    exact h1
  have hf0 : w8.frozen? ⟨qc, p, none⟩ = false := own_unfrozen HO8.out p
  have ht0 := (two_ranges HR8.out).2.2.2
  have hxo := u8_xor b0 tu
  have hlb := b0.toNat_lt
  have hlt := tu.toNat_lt
  obtain ⟨x0, HX0⟩ : ∃ x0, H.Shut (b0.toNat = x0) := ⟨_, ⟨rfl⟩⟩
  obtain ⟨t0, HT0⟩ : ∃ t0, H.Shut (tu.toNat = t0) := ⟨_, ⟨rfl⟩⟩
  rw [HX0.out, HT0.out] at hxo
  rw [HX0.out] at hc0 hlb
  rw [HT0.out] at ht0 hlt
  have HXO := Lib.hid hxo
  have hpI : (p : Int) < (n4 : Int) + 4 := by omega
  clear hxo ho8 HA8 HOA HXA HRA HBA
  go_wp2_with fail
  go_region
  all_goals
    rw [HXO.out]
    obtain ⟨y, HY⟩ : ∃ y, H.Shut (b0 ^^^ tu = y) := ⟨_, ⟨rfl⟩⟩
    rw [HY.out]
    have hO := own_set HO8.out p (bv y) hpn
    rw [← List.map_set] at hO
    have hB9 : Below w.heap.size w (w8.setCell ⟨qc, p, none⟩ (.int .u8 (y.toNat : Int))) := HB8.out.setCell (show w.heap.size ≤ qc by omega) _
    have hR9 : Row (w8.setCell ⟨qc, p, none⟩ (.int .u8 (y.toNat : Int))) bx 52 (cells22x f m g m2 at_ tu) := HR8.out.setOther ⟨qc, p, none⟩ (show bx ≠ qc by omega) _
    have HO9 : Hid ((w8.setCell ⟨qc, p, none⟩ (.int .u8 (y.toNat : Int))).drew.ownsRow w7.heap.size 5 1 (.slice (some ⟨qc, 0, none⟩) (n4 + 4) cc) (n4 + 4) (((putB f).set p y).map bv)) := Lib.hid hO
    have HB9 : Hid (Below w.heap.size w (w8.setCell ⟨qc, p, none⟩ (.int .u8 (y.toNat : Int))).drew) := Lib.hid hB9.drew
    have HR9 : Hid (Row (w8.setCell ⟨qc, p, none⟩ (.int .u8 (y.toNat : Int))).drew bx 52 (cells22x f m g m2 at_ tu)) := Lib.hid hR9
    clear hO hB9 hR9
    generalize (w8.setCell ⟨qc, p, none⟩ (.int .u8 (y.toNat : Int))).drew = w9 at *
    obtain ⟨cs, HCS⟩ : ∃ cs, H.Shut ((putB f).set p y = cs) := ⟨_, ⟨rfl⟩⟩
    rw [HCS.out] at HO9
    obtain ⟨A', c', ee, hl9, _, _, hr9, _⟩ := own_slice HO9.out
    injection ee with ee1 _ ee3
    subst ee1
    subst ee3
    have HL9 := Lib.hid hl9
    have HRD9 := Lib.hid hr9
    have hz9 : bx < w9.heap.size := HR9.out.lt
    have HE9 := Lib.hid (HE.out.below h20 HB9.out)
    have HE59 := Lib.hid (HE5.out.below h20 HB9.out)
    have HN4 : Hid (cs = putB f ↔ tu = 0) := Lib.hid ⟨fun e => by
      refine Decidable.byContradiction fun h => ?_
      rw [← HCS.out] at e
      exact set_ne hpl (by rw [HB0.out, ← HY.out]; exact xor_ne h) e, fun e => by
      rw [← HCS.out]
      exact set_same hpl (by rw [HB0.out, ← HY.out, e]; exact UInt8.xor_zero)⟩
    clear hl9 hr9 hc0 hf0 ht0 HO8 HB8 HR8 HXO
    go_wp2_with fail
    with_reducible refine (fget_any (n4 + 4) cc (some ⟨qc, 0, none⟩) cs E 159 (.pointer (some a)) w9 HE9.out HE59.out HL9.out hcc1 hcc2 HRD9.out).mono ?_
    rintro e w10 ⟨zc, er, rfl, HV10⟩
    have hz10 : w9.heap.size ≤ w10.heap.size := HV10.out.1.size
    have HLZ : Hid ((Tryd.prog.info? 25).map (·.size) = some zc.length) := Lib.hid (by rw [HV10.out.2.2.1]; exact size25)
    have HZ1 : Hid (∀ v ∈ zc, v.oneCell' = true) := Lib.hid HV10.out.2.1
    have HZL : Hid (zeroC.length = zc.length) := Lib.hid (by rw [HV10.out.2.2.1]; rfl)
    have HR10 := Lib.hid (HR9.out.below HV10.out.1 hz9)
    have HB10 : Hid (Below w.heap.size w w10) := Lib.hid (HB9.out.trans (HV10.out.1.mono HB9.out.size))
    have HDIS := Lib.hid HV10.out.2.2.2
    have HB910 := Lib.hid HV10.out.1
    clear HV10
    by_cases htu : tu = 0
    · have HTZ : Hid (t0 = 0) := Lib.hid (by rw [← HT0.out, htu]; rfl)
      have hcs := HN4.out.2 htu
      rcases HDIS.out with ⟨hgb, hxx⟩ | ⟨fr, f0, hgb, rfl, hxx⟩
      · rw [hcs, getB_putB HGV.out HF.out.fit] at hgb
        cases hgb
      clear hcs hgb htu HN4 hxx
      go_wp2_with (first
        | (refine wl_alloc rfl 25 rfl _ _ info25' ?_
           intro w11 HA11 HB11 HZ11
           have hz11 : w10.heap.size < w11.heap.size := by rw [HZ11.out]; omega)
        | (refine wl_store rfl 25 (.tmp 9) (.tmp 78) rfl w10.heap.size _ zc rfl rfl rfl 25 _ HA11.out HLZ.out HZL.out HZ1.out ?_
           intro w12 HR12 HS12 HZ12
           have HB1012 : Hid (Below w10.heap.size w10 w12) := Lib.hid (HB11.out.trans (HS12.out.below (Nat.le_refl _) (by omega)))
           have ht13 : w12.cell? ⟨bx, 21, none⟩ = some (.int .u8 0) := by
             have h := (two_ranges (HR10.out.below HB1012.out (by omega))).2.2.2
             have e0 : ((tu.toNat : Nat) : Int) = 0 := by have h1 := HT0.out; have h2 := HTZ.out; omega
             rw [h, e0]))
      go_ret
      exact ⟨rfl, HB10.out.trans (HB1012.out.mono HB10.out.size)⟩
    · have htI : ((t0 : Int) == 0) = false := by
        have : t0 ≠ 0 := fun e => htu (UInt8.toNat_inj.1 (by rw [HT0.out, e]; rfl))
        simp
        exact this
      have hne : cs ≠ putB f := fun e => htu (HN4.out.1 e)
      have HNE := Lib.hid hne
      clear htu HN4 hne
      go_wp2_with (first
        | (refine wl_alloc rfl 25 rfl _ _ info25' ?_
           intro w11 HA11 HB11 HZ11
           have hz11 : w10.heap.size < w11.heap.size := by rw [HZ11.out]; omega)
        | (refine wl_store rfl 25 (.tmp 9) (.tmp 78) rfl w10.heap.size _ zc rfl rfl rfl 25 _ HA11.out HLZ.out HZL.out HZ1.out ?_
           intro w12 HR12 HS12 HZ12
           have HB1012 : Hid (Below w10.heap.size w10 w12) := Lib.hid (HB11.out.trans (HS12.out.below (Nat.le_refl _) (by omega)))
           have ht12 := (two_ranges (HR10.out.below HB1012.out (by omega))).2.2.2
           rw [HT0.out] at ht12))
      with_reducible refine (new_any w12).mono ?_
      rintro e w13 ⟨gt, rfl, HV13⟩
      have hz12 : w10.heap.size ≤ w12.heap.size := HB1012.out.size
      have hz13 : w12.heap.size ≤ w13.heap.size := HV13.out.2.size
      have HB12 : Hid (Below w.heap.size w w12) := Lib.hid (HB10.out.trans (HB1012.out.mono HB10.out.size))
      have HB13 : Hid (Below w.heap.size w w13) := Lib.hid (HB12.out.trans (HV13.out.2.mono HB12.out.size))
      have HB913 : Hid (Below w9.heap.size w9 w13) := Lib.hid ((HB910.out.trans (HB1012.out.mono hz10)).trans (HV13.out.2.mono (by omega)))
      have HTAB := Lib.hid HV13.out.1
      have hz1112 : w12.heap.size = w11.heap.size := HZ12.out
      have HR13 : Hid (Row w13 w10.heap.size 25 zc) := Lib.hid (HR12.out.below HV13.out.2 (by omega))
      have HRX13 : Hid (Row w13 bx 52 (cells22x f m g m2 at_ tu)) := Lib.hid ((HR10.out.below HB1012.out (by omega)).below HV13.out.2 (by omega))
      have HRD13 : Hid (Rd w13 w13.heap.size (some ⟨qc, 0, none⟩) (cs.map bv)) := Lib.hid ((HRD9.out.below HB913.out).more HB913.out.size)
      obtain ⟨X, HX⟩ : ∃ X, H.Shut ((if cc = n4 then (some ⟨qc, 0, none⟩ : Option Addr) else (some ⟨qc, 0, none⟩ : Option Addr).map (·.add n4)) = X) := ⟨_, ⟨rfl⟩⟩
      have hsl : ∀ w', (Instr.slice 23 (.slice (some ⟨qc, 0, none⟩) (n4 + 4) cc) (some (.int .i64 (n4 : Int))) none none).run Tryd.prog w' = .ok (.slice X 4 (cc - n4)) w' := fun w' => by
        have h := from_bytes w' (some ⟨qc, 0, none⟩) (n4 + 4) cc n4 (by omega)
        rw [HX.out, Nat.add_sub_cancel_left] at h
        exact h
      have HRT : Hid (Rd w13 w13.heap.size X ((cs.drop n4).map bv)) := Lib.hid (by
        rw [← HX.out, List.map_drop]
        exact HRD13.out.drop (by rw [List.length_map, HL9.out]; omega) (by rw [List.length_map, HL9.out]; exact hcc1))
      obtain ⟨s5, HS5⟩ : ∃ s, H.Shut (ByteArray.mk (cs.drop n4).toArray = s) := ⟨_, ⟨rfl⟩⟩
      obtain ⟨s4, HS4⟩ : ∃ s, H.Shut (ByteArray.mk ((digest (cs.take n4)).take 4).toArray = s) := ⟨_, ⟨rfl⟩⟩
      obtain ⟨Q, HQQ⟩ : ∃ Q, H.Shut ((s4.toList == s5.toList) = Q) := ⟨_, ⟨rfl⟩⟩
      have HSV : Hid (∀ w', Below w13.heap.size w13 w' → (convert 23 9 (.slice X 4 (cc - n4))).run Tryd.prog w' = .ok (.string s5) w') := Lib.hid (fun w' hb => by rw [← HS5.out]; exact Rd.toStr (HRT.out.below hb) 4 _ (by rw [List.length_drop, HL9.out]; omega))
      have HD13 : Hid (Below w13.heap.size w13 w13.drew) := Lib.hid ((Below.refl _ _).drew)
      have HTK : Hid ((cs.take n4).length = n4) := Lib.hid (by rw [List.length_take, HL9.out]; omega)
      have HDG : Hid (Calls Tryd.prog 27 #[.pointer (some ⟨gt, 0, none⟩), .slice (some ⟨qc, 0, none⟩) n4 cc] w13.drew fun e w' => ∃ v, e = .returned v ∧ Hid (w'.ownsRow w13.drew.heap.size 5 1 v 32 ((digest (cs.take n4)).map bv) ∧ Below w13.drew.heap.size w13.drew w')) := Lib.hid (rdigest_any gt n4 cc (some ⟨qc, 0, none⟩) (cs.take n4) w13.drew HTAB.out HTK.out (by omega) (by
        rw [List.map_take]
        exact HRD13.out.take n4))
      have hw1 : IntKind.i64.wrap ((n4 : Int) + 4 - 4) = (n4 : Int) := by rw [Int.add_sub_cancel]; exact IntWalk.i64_in _ (by omega)
      have hw2 : IntKind.i64.wrap (n4 : Int) = (n4 : Int) := IntWalk.i64_in _ (by omega)
      have hn4c : (n4 : Int) ≤ (cc : Int) := by omega
      have hn40 : (0 : Int) ≤ (n4 : Int) := by omega
      clear ht12 htI
      go_wp2_with fail
      refine wp_region_held_drew (S := fun w' => (convert 23 9 (.slice X 4 (cc - n4))).run Tryd.prog w' = .ok (.string s5) w') (by kernel_rfl) (HSV.out _ HD13.out) (fun hHeld => ?_)
      refine wpAnyH_take (i := 0) (v := .pointer (some ⟨gt, 0, none⟩)) rfl (by kernel_rfl) (by kernel_rfl) (by kernel_rfl) (fun _ _ _ h => h) (Or.inl ⟨by kernel_rfl, ?_⟩) (by assumption) ?_
      · (intro w' hSw; clear hSw hHeld; go_simp)
      simp only [List.getElem_toArray, List.getElem_cons_zero, Act.put, List.setIfInBounds_toArray, List.set_cons_zero, List.set_cons_succ]
      refine wpAnyH_take (i := 1) (v := .slice (some ⟨qc, 0, none⟩) (n4 + 4) cc) rfl (by kernel_rfl) (by kernel_rfl) (by kernel_rfl) (fun _ _ _ h => h) (Or.inl ⟨by kernel_rfl, ?_⟩) (by assumption) ?_
      · (intro w' hSw; clear hSw hHeld; go_simp)
      simp only [List.getElem_toArray, List.getElem_cons_succ, List.getElem_cons_zero, Act.put, List.setIfInBounds_toArray, List.set_cons_zero, List.set_cons_succ]
      refine wpAnyH_take (i := 2) (v := .slice (some ⟨qc, 0, none⟩) (n4 + 4) cc) rfl (by kernel_rfl) (by kernel_rfl) (by kernel_rfl) (fun _ _ _ h => h) (Or.inl ⟨by kernel_rfl, ?_⟩) (by assumption) ?_
      · (intro w' hSw; clear hSw hHeld; go_simp)
      simp only [List.getElem_toArray, List.getElem_cons_succ, List.getElem_cons_zero, Act.put, List.setIfInBounds_toArray, List.set_cons_zero, List.set_cons_succ]
      refine wpAnyH_take (i := 3) (v := .int .i64 ((n4 : Int) + 4)) rfl (by kernel_rfl) (by kernel_rfl) (by kernel_rfl) (fun _ _ _ h => h) (Or.inl ⟨by kernel_rfl, ?_⟩) (by assumption) ?_
      · (intro w' hSw; clear hSw hHeld; go_simp)
      simp only [List.getElem_toArray, List.getElem_cons_succ, List.getElem_cons_zero, Act.put, List.setIfInBounds_toArray, List.set_cons_zero, List.set_cons_succ]
      refine wpAnyH_take (i := 4) (v := .int .i64 (n4 : Int)) rfl (by kernel_rfl) (by kernel_rfl) (by kernel_rfl) (fun _ _ _ h => h) (Or.inl ⟨by kernel_rfl, ?_⟩) (by assumption) ?_
      · (intro w' hSw; clear hSw hHeld; go_simp)
      simp only [List.getElem_toArray, List.getElem_cons_succ, List.getElem_cons_zero, Act.put, List.setIfInBounds_toArray, List.set_cons_zero, List.set_cons_succ]
      refine wpAnyH_take (i := 5) (v := .slice (some ⟨qc, 0, none⟩) n4 cc) rfl (by kernel_rfl) (by kernel_rfl) (by kernel_rfl) (fun _ _ _ h => h) (Or.inl ⟨by kernel_rfl, ?_⟩) (by assumption) ?_
      · (intro w' hSw; clear hSw hHeld; go_simp)
      simp only [List.getElem_toArray, List.getElem_cons_succ, List.getElem_cons_zero, Act.put, List.setIfInBounds_toArray, List.set_cons_zero, List.set_cons_succ]
      refine wpAnyH_take (i := 9) (v := .slice (some ⟨qc, 0, none⟩) (n4 + 4) cc) rfl (by kernel_rfl) (by kernel_rfl) (by kernel_rfl) (fun _ _ _ h => h) (Or.inl ⟨by kernel_rfl, ?_⟩) (by assumption) ?_
      · (intro w' hSw; clear hSw hHeld; go_simp)
      simp only [List.getElem_toArray, List.getElem_cons_succ, List.getElem_cons_zero, Act.put, List.setIfInBounds_toArray, List.set_cons_zero, List.set_cons_succ]
      refine wpAnyH_take (i := 10) (v := .slice (some ⟨qc, 0, none⟩) (n4 + 4) cc) rfl (by kernel_rfl) (by kernel_rfl) (by kernel_rfl) (fun _ _ _ h => h) (Or.inl ⟨by kernel_rfl, ?_⟩) (by assumption) ?_
      · (intro w' hSw; clear hSw hHeld; go_simp)
      simp only [List.getElem_toArray, List.getElem_cons_succ, List.getElem_cons_zero, Act.put, List.setIfInBounds_toArray, List.set_cons_zero, List.set_cons_succ]
      refine wpAnyH_take (i := 11) (v := .int .i64 ((n4 : Int) + 4)) rfl (by kernel_rfl) (by kernel_rfl) (by kernel_rfl) (fun _ _ _ h => h) (Or.inl ⟨by kernel_rfl, ?_⟩) (by assumption) ?_
      · (intro w' hSw; clear hSw hHeld; go_simp)
      simp only [List.getElem_toArray, List.getElem_cons_succ, List.getElem_cons_zero, Act.put, List.setIfInBounds_toArray, List.set_cons_zero, List.set_cons_succ]
      refine wpAnyH_take (i := 12) (v := .int .i64 (n4 : Int)) rfl (by kernel_rfl) (by kernel_rfl) (by kernel_rfl) (fun _ _ _ h => h) (Or.inl ⟨by kernel_rfl, ?_⟩) (by assumption) ?_
      · (intro w' hSw; clear hSw hHeld; go_simp)
      simp only [List.getElem_toArray, List.getElem_cons_succ, List.getElem_cons_zero, Act.put, List.setIfInBounds_toArray, List.set_cons_zero, List.set_cons_succ]
      refine wpAnyH_take (i := 13) (v := .slice X 4 (cc - n4)) rfl (by kernel_rfl) (by kernel_rfl) (by kernel_rfl) (fun _ _ _ h => h) (Or.inl ⟨by kernel_rfl, ?_⟩) (by assumption) ?_
      · (intro w' hSw; clear hSw hHeld; go_simp)
      simp only [List.getElem_toArray, List.getElem_cons_succ, List.getElem_cons_zero, Act.put, List.setIfInBounds_toArray, List.set_cons_zero, List.set_cons_succ]
      refine wpAnyH_take (i := 14) (v := .string s5) rfl (by kernel_rfl) (by kernel_rfl) (by kernel_rfl) (fun _ _ _ h => h) (Or.inl ⟨by kernel_rfl, ?_⟩) (by assumption) ?_
      · (intro w' hSw; have hcv := hSw; clear hSw hHeld; go_simp)
      simp only [List.getElem_toArray, List.getElem_cons_succ, List.getElem_cons_zero, Act.put, List.setIfInBounds_toArray, List.set_cons_zero, List.set_cons_succ]
      refine wpAnyH_ready (rs := [6]) (by kernel_rfl) (by simp) ?_
      refine AllReadyH.cons rfl (fun K hK => ?_) AllReadyH.nil
      go_simp
      with_reducible refine HDG.out.mono ?_
      rintro e w14 ⟨vd, rfl, HV14⟩
      have HB1314 : Hid (Below w13.heap.size w13 w14) := Lib.hid (HD13.out.trans HV14.out.2)
      obtain ⟨D, dc, rfl, _, hdc, hdm, hrd, _⟩ := own_slice HV14.out.1
      have hcv : (convert 23 9 (.slice D 4 dc)).run Tryd.prog w14 = .ok (.string s4) w14 := by
        rw [← HS4.out]
        have h1 := hrd.take 4
        rw [← List.map_take] at h1
        exact Rd.toStr h1 4 dc (by rw [List.length_take, digest_length]; rfl)
      have hd4 : (4 : Int) ≤ (dc : Int) := by omega
      refine hK.out _ _ (HSV.out _ HB1314.out) (fun hHeld => ?_)
      clear hK K hrd
      (try simp only [List.getElem_toArray, List.getElem_cons_succ, List.getElem_cons_zero, Act.put, List.setIfInBounds_toArray, List.set_cons_zero, List.set_cons_succ])
      refine wpAnyH_take (i := 7) (v := .slice D 4 dc) rfl (by kernel_rfl) (by kernel_rfl) (by kernel_rfl) (fun _ _ _ h => h) (Or.inl ⟨by kernel_rfl, ?_⟩) (by assumption) ?_
      · (intro w' hSw; clear hSw hHeld; go_simp)
      simp only [List.getElem_toArray, List.getElem_cons_succ, List.getElem_cons_zero, Act.put, List.setIfInBounds_toArray, List.set_cons_zero, List.set_cons_succ]
      refine wpAnyH_ready (rs := [8]) (by kernel_rfl) (by simp) ?_
      refine AllReadyH.cons rfl (fun K hK => ?_) AllReadyH.nil
      go_simp
      refine hK.out _ _ hHeld (fun hHeld => ?_)
      clear hK K
      (try simp only [List.getElem_toArray, List.getElem_cons_succ, List.getElem_cons_zero, Act.put, List.setIfInBounds_toArray, List.set_cons_zero, List.set_cons_succ])
      have hqq : (s4.toList == s5.toList) = Q := HQQ.out
      refine wpAnyH_take (i := 15) (v := .bool Q) rfl (by kernel_rfl) (by kernel_rfl) (by kernel_rfl) (fun _ _ _ h => h) (Or.inl ⟨by kernel_rfl, ?_⟩) (by assumption) ?_
      · (intro w' hSw; clear hSw hHeld; go_simp)
      simp only [List.getElem_toArray, List.getElem_cons_succ, List.getElem_cons_zero, Act.put, List.setIfInBounds_toArray, List.set_cons_zero, List.set_cons_succ]
      refine wpAnyH_done (by kernel_rfl) ?_ _
      (try simp only [List.getElem_toArray, List.getElem_cons_succ, List.getElem_cons_zero, Act.put, List.setIfInBounds_toArray, List.set_cons_zero, List.set_cons_succ])
      clear hqq hcv hsl hw1 hw2
      have HB14 : Hid (Below w.heap.size w w14) := Lib.hid (HB13.out.trans (HB1314.out.mono HB13.out.size))
      have hz14 : w13.heap.size ≤ w14.heap.size := HB1314.out.size
      have HR14 := Lib.hid (HR13.out.below HB1314.out (by omega))
      have HRX14 := Lib.hid (HRX13.out.below HB1314.out (by omega))
      have ce : w14.cell? ⟨0, 0, none⟩ = some (.iface 159 (.pointer (some a))) := (HE.out.below h20 HB14.out).ef
      have hen := fun W : World => err_eql a W
      have hen2 := fun W : World => nil_eql a W
      rcases HDIS.out with ⟨hgb, rfl⟩ | ⟨fr, f0, hgb, rfl, hzc, hpl0, hfr⟩
      · cases Q with
        | true =>
          go_wp2_with fail
          go_ret
          exact ⟨rfl, HB14.out⟩
        | false =>
          go_wp2_with fail
          go_ret
          exact ⟨rfl, HB14.out⟩
      · have hQ : Q = true := by
          rw [← HQQ.out, ← HS4.out, ← HS5.out, ByteArray.toList_eq, ByteArray.toList_eq]
          have h1 := getB_check hgb
          rw [HL9.out, Nat.add_sub_cancel] at h1
          show ((digest (cs.take n4)).take 4 == cs.drop n4) = true
          rw [h1]
          simp
        subst hQ
        have hzc2 : zc = fr.cells fr.bs.length := by
          unfold Fr.v at hzc
          injection hzc with hzc
          exact List.toArray_inj hzc
        obtain ⟨m3, HM3⟩ : ∃ m3, H.Shut (fr.bs.length = m3) := ⟨_, ⟨rfl⟩⟩
        rw [HM3.out] at hzc2
        have HRF : Hid (w14.rangeAt w10.heap.size 0 (fr.cells m3)) := Lib.hid (by rw [← hzc2]; exact row_range HR14.out)
        have HRG2 := Lib.hid (two_ranges HRX14.out).1
        have HLr : Hid ((Tryd.prog.info? 25).map (·.size) = some (fr.cells m3).length) := Lib.hid size25
        have hnp : fr.pl ≠ f.pl := fun e => HNE.out (by
          have h2 := (getB_some hgb).2.2.2.1
          rw [← h2, ← hpl0, e, putB_pl])
        have HFR14 : Hid (fr.ok w14 w14.heap.size) := Lib.hid ((((hfr.below HB1012.out).more hz12 |>.below HV13.out.2).more hz13 |>.below HB1314.out).more hz14)
        have HF14 := Lib.hid ((HF.out.below HB14.out).more HB14.out.size)
        have HRS : Hid (Calls Tryd.prog 22 #[.agg (fr.cells m3).toArray, .agg (f.cells m).toArray] w14 fun e w' => e = .returned (.bool false) ∧ Hid (Below w14.heap.size w14 w')) := Lib.hid (rsame_false fr f _ _ w14 (by unfold Fr.v; rw [HM3.out]) HVf.out HFR14.out HF14.out hnp)
        clear hgb hzc hpl0 hfr hnp hzc2
        go_wp2_with (first
          | (refine wl_loadG (by kernel_rfl) (.tmp 9) rfl w10.heap.size 0 rfl (fr.cells m3) HRF.out HLr.out ?_
             intro va HVA
             obtain rfl := HVA.out)
          | (refine wl_loadG (by kernel_rfl) (.tmp 107) rfl bx 0 rfl (f.cells m) HRG2.out HLf.out ?_
             intro vb HVB
             obtain rfl := HVB.out))
        with_reducible refine HRS.out.mono ?_
        rintro e w15 ⟨rfl, HV15⟩
        go_wp2_with fail
        go_ret
        exact ⟨rfl, HB14.out.trans (HV15.out.mono HB14.out.size)⟩
end Go.Proofs.YtmhfhdbaeijcfaaDoor
