/- The law FramePuts: frames that are valid. -/
import Derived.Test.YtmhfhdbaeijcfaaDoorPub
namespace Go.Proofs.YtmhfhdbaeijcfaaDoor
open Go.RowKit
open Go.Proofs.YtmhfhdbaeijcfaaDoor.H
open List (getElem_toArray getElem_cons_succ getElem_cons_zero setIfInBounds_toArray set_cons_zero set_cons_succ)
set_option maxRecDepth 100000 in
set_option maxHeartbeats 8000000 in
theorem puts_g0 (f : Fr) (m : Nat) (v : Value) (E : Nat → Value) (ad : Nat → Addr) (a : Addr) (w : World) (hm : Hid (f.bs.length = m)) (hv : Hid (v = .agg (f.cells m).toArray)) (hE : Env w E 159 (.pointer (some a))) (hE5 : F.Errs w E) (h18 : Eighteen w ad) (ha : ad 0 = a) (hf : f.ok w w.heap.size) (hval : valid f = true) (hk : f.kind < 7) :
    Calls Tryd.prog 3 #[v] w fun e w' => e = .returned (.bool true) ∧ Below w.heap.size w w' := by
  have HE := Lib.hid hE
  have HE5 := Lib.hid hE5
  have H18 := Lib.hid h18
  have HAD := Lib.hid ha
  have HF := Lib.hid hf
  have h20 := hE.size
  have HVL := Lib.hid hval
  have HV2 : Hid (Value.agg (f.cells m).toArray = f.v) := Lib.hid (by unfold Fr.v; rw [hm.out])
  have HLF : Hid ((Tryd.prog.info? 25).map (·.size) = some (f.cells m).length) := Lib.hid size25
  clear hE hE5 h18 ha hf hval
  obtain ⟨bx, HBX⟩ : ∃ bx, H.Shut (w.heap.size = bx) := ⟨_, ⟨rfl⟩⟩
  have hbx : w.heap.size ≤ bx := by rw [HBX.out]; exact Nat.le_refl _
  go_enter Tryd.func3, Tryd.ntmps3
  go_wp2_with (first
    | (refine wl_box rfl 25 (.tmp 0) rfl (f.cells m) hv.out ?_
       intro w1 HR1 HB1 HZ1))
  have hz1 : w1.heap.size = bx + 1 := by rw [HZ1.out, HBX.out]
  rw [HBX.out] at HR1 ⊢
  have HE1 := Lib.hid (HE.out.below h20 HB1.out)
  with_reducible refine (alive_any E a w1 HE1.out).mono ?_
  rintro e w2 ⟨rfl, HB12⟩
  have hz2 : w1.heap.size ≤ w2.heap.size := HB12.out.size
  have HR2 := Lib.hid (HR1.out.below HB12.out (by omega))
  have HB2 : Hid (Below w.heap.size w w2) := Lib.hid (HB1.out.trans (HB12.out.mono (by omega)))
  have HE2 := Lib.hid (HE.out.below h20 HB2.out)
  have HF2 := Lib.hid ((HF.out.below HB2.out).more HB2.out.size)
  clear HR1 HZ1 HB1 HE1 HB12
  go_wp2_with (first
    | (refine wl_load rfl 25 (.tmp 1) rfl bx rfl 25 _ _ HR2.out under25.choose_spec rfl size25 ?_
       intro vq HVQ))
  have HVQ2 : Hid (vq = f.v) := Lib.hid (HVQ.out.trans HV2.out)
  with_reducible refine (fputs_good f vq E 159 (.pointer (some a)) w2 HVQ2 HE2.out HF2.out HVL.out).mono ?_
  rintro e w3 ⟨A1, n1, c1, rfl, HP1⟩
  have hz3 : w2.heap.size ≤ w3.heap.size := HP1.out.below.size
  have HB3 : Hid (Below w.heap.size w w3) := Lib.hid (HB2.out.trans (HP1.out.below.mono HB2.out.size))
  have HR3 := Lib.hid (HR2.out.below HP1.out.below (by omega))
  have HF3 := Lib.hid ((HF.out.below HB3.out).more HB3.out.size)
  have HS3 : Hid (∀ w', Below w3.heap.size w3 w' → w'.rangeAt bx 0 (f.cells m)) := Lib.hid (fun w' hb => (HR3.out.below hb (by omega)).range (es := []) (by simp))
  have HBD : Hid (Below w3.heap.size w3 w3.drew) := Lib.hid ((Below.refl _ _).drew)
  clear HVQ HVQ2 HR2 HE2 HF2
  go_wp2_with fail
  refine wp_region_held_drew (S := fun w' => w'.rangeAt bx 0 (f.cells m)) (by kernel_rfl) (HS3.out _ HBD.out) (fun hHeld => ?_)
  refine tk 1 (.agg (f.cells m).toArray) rfl (yieldsIf_load_mid (by kernel_rfl) 25 (.tmp 1) rfl bx 0 rfl (f.cells m) _ (fun w' hSw => hSw) under25.choose_spec rfl HLF.out) ?_
  try simp only [getElem_toArray, getElem_cons_succ, getElem_cons_zero, Act.put, setIfInBounds_toArray, set_cons_zero, set_cons_succ]
  refine wpAnyH_ready (rs := [0]) (by kernel_rfl) (by simp) ?_
  refine AllReadyH.cons rfl (fun K hK => ?_) AllReadyH.nil
  go_simp
  with_reducible refine (new_any w3.drew).mono ?_
  rintro e w4 ⟨g, rfl, HV4⟩
  have HB34 : Hid (Below w3.heap.size w3 w4) := Lib.hid (HBD.out.trans (HV4.out.2.mono HBD.out.size))
  have hz4 : w3.heap.size ≤ w4.heap.size := HB34.out.size
  have HT4 := Lib.hid HV4.out.1
  have HF4 := Lib.hid ((HF3.out.below HB34.out).more HB34.out.size)
  refine hK.out _ _ (HS3.out _ HB34.out) (fun hHeld => ?_)
  clear hK K HV4
  try simp only [getElem_toArray, getElem_cons_succ, getElem_cons_zero, Act.put, setIfInBounds_toArray, set_cons_zero, set_cons_succ]
  refine wpAnyH_ready (rs := [2]) (by kernel_rfl) (by simp) ?_
  refine AllReadyH.cons rfl (fun K hK => ?_) AllReadyH.nil
  go_simp
  with_reducible refine (rputs_good f _ g w4 HV2 HT4.out HF4.out HVL.out).mono ?_
  rintro e w5 ⟨A2, n2, c2, rfl, HP2⟩
  have HB35 : Hid (Below w3.heap.size w3 w5) := Lib.hid (HB34.out.trans (HP2.out.below.mono HB34.out.size))
  have hz5 : w4.heap.size ≤ w5.heap.size := HP2.out.below.size
  refine hK.out _ _ (HS3.out _ HB35.out) (fun hHeld => ?_)
  clear hK K
  try simp only [getElem_toArray, getElem_cons_succ, getElem_cons_zero, Act.put, setIfInBounds_toArray, set_cons_zero, set_cons_succ]
  refine tk 3 (.tuple #[.slice A2 n2 c2, .bool true]) rfl (Or.inl ⟨by kernel_rfl, ?_⟩) ?_
  · intro w' hSw; go_simp
  try simp only [getElem_toArray, getElem_cons_succ, getElem_cons_zero, Act.put, setIfInBounds_toArray, set_cons_zero, set_cons_succ]
  refine tk 4 (.slice A2 n2 c2) rfl (Or.inl ⟨by kernel_rfl, ?_⟩) ?_
  · intro w' hSw; go_simp
  try simp only [getElem_toArray, getElem_cons_succ, getElem_cons_zero, Act.put, setIfInBounds_toArray, set_cons_zero, set_cons_succ]
  refine tk 5 (.bool true) rfl (Or.inl ⟨by kernel_rfl, ?_⟩) ?_
  · intro w' hSw; go_simp
  try simp only [getElem_toArray, getElem_cons_succ, getElem_cons_zero, Act.put, setIfInBounds_toArray, set_cons_zero, set_cons_succ]
  refine tk 6 (.slice A2 n2 c2) rfl (Or.inl ⟨by kernel_rfl, ?_⟩) ?_
  · intro w' hSw; go_simp
  try simp only [getElem_toArray, getElem_cons_succ, getElem_cons_zero, Act.put, setIfInBounds_toArray, set_cons_zero, set_cons_succ]
  refine tk 7 (.bool true) rfl (Or.inl ⟨by kernel_rfl, ?_⟩) ?_
  · intro w' hSw; go_simp
  try simp only [getElem_toArray, getElem_cons_succ, getElem_cons_zero, Act.put, setIfInBounds_toArray, set_cons_zero, set_cons_succ]
  refine wpAnyH_done (by kernel_rfl) ?_ _
  try simp only [getElem_toArray, getElem_cons_succ, getElem_cons_zero, Act.put, setIfInBounds_toArray, set_cons_zero, set_cons_succ]
  clear hHeld
  have HB5 := Lib.hid (HB3.out.trans (HB35.out.mono HB3.out.size))
  have HR5 := Lib.hid (HR3.out.below HB35.out (by omega))
  have HRA5 : Hid (Rd w5 w5.heap.size A1 ((putB f).map bv)) := Lib.hid ((HP1.out.rd.below HB35.out).more HB35.out.size)
  have HRC5 : Hid (Rd w5 w5.heap.size A2 ((putB f).map bv)) := Lib.hid HP2.out.rd
  have HL1 : Hid (((putB f) : List UInt8).length = n1) := Lib.hid HP1.out.len
  have HL2 : Hid (((putB f) : List UInt8).length = n2) := Lib.hid HP2.out.len
  have hn1 : n1 ≤ c1 := HP1.out.cap
  have hc1 : c1 ≤ 9223372036854775807 := HP1.out.max
  have c0 : w5.cell? ⟨bx, 0, none⟩ = some (.int .i64 f.kind) := HR5.out.cell 0
  obtain ⟨s, HS⟩ : ∃ s : ByteArray, H.Shut (s = ⟨(layL f.kind).toArray⟩) := ⟨_, ⟨rfl⟩⟩
  obtain ⟨kk, HKK⟩ : ∃ kk, H.Shut ((used f.kind).length = kk) := ⟨_, ⟨rfl⟩⟩
  have HRC : Hid (∀ w : World, Calls Tryd.prog 16 #[.agg #[.int .i64 f.kind, .int .i64 0, .int .i64 0, .int .i64 0, .int .i64 0, .int .i64 0, .string ⟨#[]⟩, .string ⟨#[]⟩, .float .f64 0, .slice none 0 0]] w fun e w' => ∃ A, e = .returned (.tuple #[.string s, .slice A kk kk]) ∧ Hid (Below w.heap.size w w')) := Lib.hid (fun w => by
    have h := rcells_every (zf f.kind) w (zf f.kind).v (Lib.hid rfl) ({ zf0_okP w w.heap.size with kind := (show i64ok f.kind from HF.out.kind) })
    have e1 : (⟨(layL (zf f.kind).kind).toArray⟩ : ByteArray) = s := HS.out.symm
    have e2 : (used (zf f.kind).kind).length = kk := HKK.out
    rw [e1, e2] at h
    exact h.mono fun e w' ⟨A, h1, h2⟩ => ⟨A, h1, Lib.hid h2.out.2⟩)
  clear HS3 HB34 HB35 HP1 HP2 HR3 HF3 HF4 HT4 HBD HB3
  go_wp2_with fail
  with_reducible refine (HRC.out w5).mono ?_
  rintro e w6 ⟨A6, rfl, HVc⟩
  have hz6 : w5.heap.size ≤ w6.heap.size := HVc.out.size
  have HB6 := Lib.hid (HB5.out.trans (HVc.out.mono HB5.out.size))
  have HR6 := Lib.hid (HR5.out.below HVc.out (by omega))
  have HRA6 : Hid (Rd w6 w6.heap.size A1 ((putB f).map bv)) := Lib.hid ((HRA5.out.below HVc.out).more HVc.out.size)
  have HRC6 : Hid (Rd w6 w6.heap.size A2 ((putB f).map bv)) := Lib.hid ((HRC5.out.below HVc.out).more HVc.out.size)
  have HF6 := Lib.hid ((HF.out.below HB6.out).more HB6.out.size)
  have HE6 := Lib.hid (HE.out.below h20 HB6.out)
  have H186 := Lib.hid (H18.out.below H18.out.lt HB6.out)
  obtain ⟨S1, HS1⟩ : ∃ s : ByteArray, H.Shut (s = ⟨((putB f) : List UInt8).toArray⟩) := ⟨_, ⟨rfl⟩⟩
  have HS6 : Hid (∀ w', Below w6.heap.size w6 w' → w'.rangeAt bx 0 (f.cells m) ∧ w'.cell? ⟨bx, 0, none⟩ = some (.int .i64 f.kind) ∧ w'.cell? ⟨0, 0, none⟩ = some (.iface 159 (.pointer (some a))) ∧ (convert 23 9 (.slice A1 n1 c1)).run Tryd.prog w' = .ok (.string S1) w' ∧ (convert 23 9 (.slice A2 n2 c2)).run Tryd.prog w' = .ok (.string S1) w') := Lib.hid (fun w' hb => by
    rw [HS1.out]
    exact ⟨(HR6.out.below hb (by omega)).range (es := []) (by simp), (HR6.out.below hb (by omega)).cell 0, (HE6.out.below (by omega) hb).ef, (HRA6.out.below hb).toStr _ _ HL1.out, (HRC6.out.below hb).toStr _ _ HL2.out⟩)
  have HCK : Hid (∀ w', Below w6.heap.size w6 w' → Calls Tryd.prog 18 #[.agg (f.cells m).toArray] w' fun e w'' => e = .returned (.nilIface) ∧ Hid (Below w6.heap.size w6 w'')) := Lib.hid (fun w' hb => by
    have h := check_frame f _ _ w' HV2 (HE6.out.below (by omega) hb).ef (HE6.out.below (by omega) hb).size ((HF6.out.below hb).more hb.size)
    rw [HVL.out] at h
    exact h.mono fun e w'' ⟨h1, h2⟩ => ⟨h1, Lib.hid (hb.trans (h2.out.mono hb.size))⟩)
  obtain ⟨NK, HNK⟩ : ∃ K : Int, H.Shut (K = (0 : Int)) := ⟨_, ⟨rfl⟩⟩
  have HNU : Hid (∀ w', Below w6.heap.size w6 w' → Calls Tryd.prog 17 #[.nilIface] w' fun e w'' => e = .returned (.int .i64 NK) ∧ Hid (Below w6.heap.size w6 w'')) := Lib.hid (fun w' hb => by
    rw [HNK.out]
    exact (num_none w').mono fun e w'' ⟨h1, h2⟩ => ⟨h1, Lib.hid (h2 ▸ hb)⟩)
  have HRW : Hid (∀ w' : World, Calls Tryd.prog 19 #[.int .i64 f.kind] w' fun e w'' => e = .returned (.bool false) ∧ w' = w'') := Lib.hid (fun w' => row_0 f.kind w' hk)
  have HLY : Hid (∀ w', Below w6.heap.size w6 w' → Calls Tryd.prog 20 #[.int .i64 f.kind] w' fun e w'' => e = .returned (.string s) ∧ Hid (Below w6.heap.size w6 w'')) := Lib.hid (fun w' hb => by
    have h := layout_any f.kind w'
    rw [← HS.out] at h
    exact h.mono fun e w'' ⟨h1, h2⟩ => ⟨h1, Lib.hid (hb.trans (h2.out.mono hb.size))⟩)
  have HBD : Hid (Below w6.heap.size w6 w6.drew) := Lib.hid ((Below.refl _ _).drew)
  have hk7 : ¬ (7 ≤ f.kind) := by omega
  clear HVc HRC HRA5 HRC5 HR5 c0
  go_wp2_with fail
  refine wp_region_held_drew (S := fun w' => w'.rangeAt bx 0 (f.cells m) ∧ w'.cell? ⟨bx, 0, none⟩ = some (.int .i64 f.kind) ∧ w'.cell? ⟨0, 0, none⟩ = some (.iface 159 (.pointer (some a))) ∧ (convert 23 9 (.slice A1 n1 c1)).run Tryd.prog w' = .ok (.string S1) w' ∧ (convert 23 9 (.slice A2 n2 c2)).run Tryd.prog w' = .ok (.string S1) w') (by kernel_rfl) (HS6.out _ HBD.out) (fun hHeld => ?_)
  refine tk 0 (.slice A1 n1 c1) rfl (Or.inl ⟨by kernel_rfl, ?_⟩) ?_
  · intro w' ⟨_, s1, s2, s3, s4⟩; clear hHeld; go_simp
  try simp only [getElem_toArray, getElem_cons_zero, Act.put, setIfInBounds_toArray, set_cons_zero, set_cons_succ]
  refine tk 1 (.string S1) rfl (Or.inl ⟨by kernel_rfl, ?_⟩) ?_
  · intro w' ⟨_, s1, s2, s3, s4⟩; clear hHeld; go_simp
  try simp only [getElem_toArray, getElem_cons_succ, getElem_cons_zero, Act.put, setIfInBounds_toArray, set_cons_zero, set_cons_succ]
  refine tk 2 (.slice A2 n2 c2) rfl (Or.inl ⟨by kernel_rfl, ?_⟩) ?_
  · intro w' ⟨_, s1, s2, s3, s4⟩; clear hHeld; go_simp
  try simp only [getElem_toArray, getElem_cons_succ, getElem_cons_zero, Act.put, setIfInBounds_toArray, set_cons_zero, set_cons_succ]
  refine tk 3 (.string S1) rfl (Or.inl ⟨by kernel_rfl, ?_⟩) ?_
  · intro w' ⟨_, s1, s2, s3, s4⟩; clear hHeld; go_simp
  try simp only [getElem_toArray, getElem_cons_succ, getElem_cons_zero, Act.put, setIfInBounds_toArray, set_cons_zero, set_cons_succ]
  refine tk 4 (.bool false) rfl (Or.inl ⟨by kernel_rfl, ?_⟩) ?_
  · intro w' ⟨_, s1, s2, s3, s4⟩; clear hHeld; go_simp
  try simp only [getElem_toArray, getElem_cons_succ, getElem_cons_zero, Act.put, setIfInBounds_toArray, set_cons_zero, set_cons_succ]
  refine tk 5 (.bool false) rfl (Or.inl ⟨by kernel_rfl, ?_⟩) ?_
  · intro w' ⟨_, s1, s2, s3, s4⟩; clear hHeld; go_simp
  try simp only [getElem_toArray, getElem_cons_succ, getElem_cons_zero, Act.put, setIfInBounds_toArray, set_cons_zero, set_cons_succ]
  refine tk 6 (.nilIface) rfl (Or.inl ⟨by kernel_rfl, ?_⟩) ?_
  · intro w' ⟨_, s1, s2, s3, s4⟩; clear hHeld; go_simp
  try simp only [getElem_toArray, getElem_cons_succ, getElem_cons_zero, Act.put, setIfInBounds_toArray, set_cons_zero, set_cons_succ]
  refine tk 7 (.bool true) rfl (Or.inl ⟨by kernel_rfl, ?_⟩) ?_
  · intro w' ⟨_, s1, s2, s3, s4⟩; clear hHeld; go_simp
  try simp only [getElem_toArray, getElem_cons_succ, getElem_cons_zero, Act.put, setIfInBounds_toArray, set_cons_zero, set_cons_succ]
  refine tk 8 (.bool true) rfl (Or.inl ⟨by kernel_rfl, ?_⟩) ?_
  · intro w' ⟨_, s1, s2, s3, s4⟩; clear hHeld; go_simp
  try simp only [getElem_toArray, getElem_cons_succ, getElem_cons_zero, Act.put, setIfInBounds_toArray, set_cons_zero, set_cons_succ]
  refine tk 9 (.bool false) rfl (Or.inl ⟨by kernel_rfl, ?_⟩) ?_
  · intro w' ⟨_, s1, s2, s3, s4⟩; clear hHeld; go_simp
  try simp only [getElem_toArray, getElem_cons_succ, getElem_cons_zero, Act.put, setIfInBounds_toArray, set_cons_zero, set_cons_succ]
  refine tk 10 (.bool false) rfl (Or.inl ⟨by kernel_rfl, ?_⟩) ?_
  · intro w' ⟨_, s1, s2, s3, s4⟩; clear hHeld; go_simp
  try simp only [getElem_toArray, getElem_cons_succ, getElem_cons_zero, Act.put, setIfInBounds_toArray, set_cons_zero, set_cons_succ]
  refine tk 11 (.bool false) rfl (Or.inl ⟨by kernel_rfl, ?_⟩) ?_
  · intro w' ⟨_, s1, s2, s3, s4⟩; clear hHeld; go_simp
  try simp only [getElem_toArray, getElem_cons_succ, getElem_cons_zero, Act.put, setIfInBounds_toArray, set_cons_zero, set_cons_succ]
  refine tk 12 (.nilIface) rfl (Or.inl ⟨by kernel_rfl, ?_⟩) ?_
  · intro w' ⟨_, s1, s2, s3, s4⟩; clear hHeld; go_simp
  try simp only [getElem_toArray, getElem_cons_succ, getElem_cons_zero, Act.put, setIfInBounds_toArray, set_cons_zero, set_cons_succ]
  refine tk 13 (.bool false) rfl (Or.inl ⟨by kernel_rfl, ?_⟩) ?_
  · intro w' ⟨_, s1, s2, s3, s4⟩; clear hHeld; go_simp
  try simp only [getElem_toArray, getElem_cons_succ, getElem_cons_zero, Act.put, setIfInBounds_toArray, set_cons_zero, set_cons_succ]
  refine tk 14 (.bool false) rfl (Or.inl ⟨by kernel_rfl, ?_⟩) ?_
  · intro w' ⟨_, s1, s2, s3, s4⟩; clear hHeld; go_simp
  try simp only [getElem_toArray, getElem_cons_succ, getElem_cons_zero, Act.put, setIfInBounds_toArray, set_cons_zero, set_cons_succ]
  refine tk 15 (undef) rfl (Or.inr ⟨by kernel_rfl, rfl⟩) ?_
  try simp only [getElem_toArray, getElem_cons_succ, getElem_cons_zero, Act.put, setIfInBounds_toArray, set_cons_zero, set_cons_succ]
  refine tk 16 (undef) rfl (Or.inr ⟨by kernel_rfl, rfl⟩) ?_
  try simp only [getElem_toArray, getElem_cons_succ, getElem_cons_zero, Act.put, setIfInBounds_toArray, set_cons_zero, set_cons_succ]
  refine tk 17 (undef) rfl (Or.inr ⟨by kernel_rfl, rfl⟩) ?_
  try simp only [getElem_toArray, getElem_cons_succ, getElem_cons_zero, Act.put, setIfInBounds_toArray, set_cons_zero, set_cons_succ]
  refine tk 18 (.bool false) rfl (Or.inl ⟨by kernel_rfl, ?_⟩) ?_
  · intro w' ⟨_, s1, s2, s3, s4⟩; clear hHeld; go_simp
  try simp only [getElem_toArray, getElem_cons_succ, getElem_cons_zero, Act.put, setIfInBounds_toArray, set_cons_zero, set_cons_succ]
  refine tk 19 (.bool false) rfl (Or.inl ⟨by kernel_rfl, ?_⟩) ?_
  · intro w' ⟨_, s1, s2, s3, s4⟩; clear hHeld; go_simp
  try simp only [getElem_toArray, getElem_cons_succ, getElem_cons_zero, Act.put, setIfInBounds_toArray, set_cons_zero, set_cons_succ]
  refine tk 20 (.bool false) rfl (Or.inl ⟨by kernel_rfl, ?_⟩) ?_
  · intro w' ⟨_, s1, s2, s3, s4⟩; clear hHeld; go_simp
  try simp only [getElem_toArray, getElem_cons_succ, getElem_cons_zero, Act.put, setIfInBounds_toArray, set_cons_zero, set_cons_succ]
  refine tk 21 (.agg (f.cells m).toArray) rfl (yieldsIf_load_mid (by kernel_rfl) 25 (.tmp 1) rfl bx 0 rfl (f.cells m) _ (fun w' hSw => hSw.1) under25.choose_spec rfl HLF.out) ?_
  try simp only [getElem_toArray, getElem_cons_succ, getElem_cons_zero, Act.put, setIfInBounds_toArray, set_cons_zero, set_cons_succ]
  refine tk 24 (.nilIface) rfl (Or.inl ⟨by kernel_rfl, ?_⟩) ?_
  · intro w' ⟨_, s1, s2, s3, s4⟩; clear hHeld; go_simp
  try simp only [getElem_toArray, getElem_cons_succ, getElem_cons_zero, Act.put, setIfInBounds_toArray, set_cons_zero, set_cons_succ]
  refine wpAnyH_ready (rs := [22]) (by kernel_rfl) (by simp) ?_
  refine AllReadyH.cons rfl (fun K hK => ?_) AllReadyH.nil
  go_simp
  with_reducible refine (HCK.out _ HBD.out).mono ?_
  rintro e w7 ⟨rfl, HB7⟩
  refine hK.out _ _ (HS6.out _ HB7.out) (fun hHeld => ?_)
  clear hK
  try simp only [getElem_toArray, getElem_cons_succ, getElem_cons_zero, Act.put, setIfInBounds_toArray, set_cons_zero, set_cons_succ]
  refine wpAnyH_ready (rs := [23]) (by kernel_rfl) (by simp) ?_
  refine AllReadyH.cons rfl (fun K hK => ?_) AllReadyH.nil
  go_simp
  with_reducible refine (HNU.out _ HB7.out).mono ?_
  rintro e w8 ⟨rfl, HB8⟩
  refine hK.out _ _ (HS6.out _ HB8.out) (fun hHeld => ?_)
  clear hK
  try simp only [getElem_toArray, getElem_cons_succ, getElem_cons_zero, Act.put, setIfInBounds_toArray, set_cons_zero, set_cons_succ]
  refine wpAnyH_ready (rs := [25]) (by kernel_rfl) (by simp) ?_
  refine AllReadyH.cons rfl (fun K hK => ?_) AllReadyH.nil
  go_simp
  with_reducible refine (HNU.out _ HB8.out).mono ?_
  rintro e w9 ⟨rfl, HB9⟩
  refine hK.out _ _ (HS6.out _ HB9.out) (fun hHeld => ?_)
  clear hK
  try simp only [getElem_toArray, getElem_cons_succ, getElem_cons_zero, Act.put, setIfInBounds_toArray, set_cons_zero, set_cons_succ]
  refine tk 26 (.bool false) rfl (Or.inl ⟨by kernel_rfl, ?_⟩) ?_
  · intro w' ⟨_, s1, s2, s3, s4⟩; clear hHeld; go_simp
  try simp only [getElem_toArray, getElem_cons_succ, getElem_cons_zero, Act.put, setIfInBounds_toArray, set_cons_zero, set_cons_succ]
  refine tk 27 (.bool false) rfl (Or.inl ⟨by kernel_rfl, ?_⟩) ?_
  · intro w' ⟨_, s1, s2, s3, s4⟩; clear hHeld; go_simp
  try simp only [getElem_toArray, getElem_cons_succ, getElem_cons_zero, Act.put, setIfInBounds_toArray, set_cons_zero, set_cons_succ]
  refine tk 28 (.bool false) rfl (Or.inl ⟨by kernel_rfl, ?_⟩) ?_
  · intro w' ⟨_, s1, s2, s3, s4⟩; clear hHeld; go_simp
  try simp only [getElem_toArray, getElem_cons_succ, getElem_cons_zero, Act.put, setIfInBounds_toArray, set_cons_zero, set_cons_succ]
  refine tk 29 (.pointer (some ⟨bx, 0, none⟩)) rfl (Or.inl ⟨by kernel_rfl, ?_⟩) ?_
  · intro w' ⟨_, s1, s2, s3, s4⟩; clear hHeld; go_simp
  try simp only [getElem_toArray, getElem_cons_succ, getElem_cons_zero, Act.put, setIfInBounds_toArray, set_cons_zero, set_cons_succ]
  refine tk 30 (.int .i64 f.kind) rfl (Or.inl ⟨by kernel_rfl, ?_⟩) ?_
  · intro w' ⟨_, s1, s2, s3, s4⟩; clear hHeld; go_simp
  try simp only [getElem_toArray, getElem_cons_succ, getElem_cons_zero, Act.put, setIfInBounds_toArray, set_cons_zero, set_cons_succ]
  refine tk 32 (.pointer (some ⟨bx, 0, none⟩)) rfl (Or.inl ⟨by kernel_rfl, ?_⟩) ?_
  · intro w' ⟨_, s1, s2, s3, s4⟩; clear hHeld; go_simp
  try simp only [getElem_toArray, getElem_cons_succ, getElem_cons_zero, Act.put, setIfInBounds_toArray, set_cons_zero, set_cons_succ]
  refine tk 33 (.int .i64 f.kind) rfl (Or.inl ⟨by kernel_rfl, ?_⟩) ?_
  · intro w' ⟨_, s1, s2, s3, s4⟩; clear hHeld; go_simp
  try simp only [getElem_toArray, getElem_cons_succ, getElem_cons_zero, Act.put, setIfInBounds_toArray, set_cons_zero, set_cons_succ]
  refine tk 34 (.bool false) rfl (Or.inl ⟨by kernel_rfl, ?_⟩) ?_
  · intro w' ⟨_, s1, s2, s3, s4⟩; clear hHeld; go_simp
  try simp only [getElem_toArray, getElem_cons_succ, getElem_cons_zero, Act.put, setIfInBounds_toArray, set_cons_zero, set_cons_succ]
  refine wpAnyH_ready (rs := [31]) (by kernel_rfl) (by simp) ?_
  refine AllReadyH.cons rfl (fun K hK => ?_) AllReadyH.nil
  go_simp
  with_reducible refine (HRW.out _).mono ?_
  rintro e w10 ⟨rfl, rfl⟩
  refine hK.out _ _ (HS6.out _ HB9.out) (fun hHeld => ?_)
  clear hK
  try simp only [getElem_toArray, getElem_cons_succ, getElem_cons_zero, Act.put, setIfInBounds_toArray, set_cons_zero, set_cons_succ]
  refine tk 35 (.bool false) rfl (Or.inl ⟨by kernel_rfl, ?_⟩) ?_
  · intro w' ⟨_, s1, s2, s3, s4⟩; clear hHeld; go_simp
  try simp only [getElem_toArray, getElem_cons_succ, getElem_cons_zero, Act.put, setIfInBounds_toArray, set_cons_zero, set_cons_succ]
  refine tk 36 (undef) rfl (Or.inr ⟨by kernel_rfl, rfl⟩) ?_
  try simp only [getElem_toArray, getElem_cons_succ, getElem_cons_zero, Act.put, setIfInBounds_toArray, set_cons_zero, set_cons_succ]
  refine tk 37 (undef) rfl (Or.inr ⟨by kernel_rfl, rfl⟩) ?_
  try simp only [getElem_toArray, getElem_cons_succ, getElem_cons_zero, Act.put, setIfInBounds_toArray, set_cons_zero, set_cons_succ]
  refine tk 38 (undef) rfl (Or.inr ⟨by kernel_rfl, rfl⟩) ?_
  try simp only [getElem_toArray, getElem_cons_succ, getElem_cons_zero, Act.put, setIfInBounds_toArray, set_cons_zero, set_cons_succ]
  refine tk 39 (.bool false) rfl (Or.inl ⟨by kernel_rfl, ?_⟩) ?_
  · intro w' ⟨_, s1, s2, s3, s4⟩; clear hHeld; go_simp
  try simp only [getElem_toArray, getElem_cons_succ, getElem_cons_zero, Act.put, setIfInBounds_toArray, set_cons_zero, set_cons_succ]
  refine tk 40 (.bool false) rfl (Or.inl ⟨by kernel_rfl, ?_⟩) ?_
  · intro w' ⟨_, s1, s2, s3, s4⟩; clear hHeld; go_simp
  try simp only [getElem_toArray, getElem_cons_succ, getElem_cons_zero, Act.put, setIfInBounds_toArray, set_cons_zero, set_cons_succ]
  refine tk 41 (.bool false) rfl (Or.inl ⟨by kernel_rfl, ?_⟩) ?_
  · intro w' ⟨_, s1, s2, s3, s4⟩; clear hHeld; go_simp
  try simp only [getElem_toArray, getElem_cons_succ, getElem_cons_zero, Act.put, setIfInBounds_toArray, set_cons_zero, set_cons_succ]
  refine tk 42 (.bool false) rfl (Or.inl ⟨by kernel_rfl, ?_⟩) ?_
  · intro w' ⟨_, s1, s2, s3, s4⟩; clear hHeld; go_simp
  try simp only [getElem_toArray, getElem_cons_succ, getElem_cons_zero, Act.put, setIfInBounds_toArray, set_cons_zero, set_cons_succ]
  refine tk 43 (.pointer (some ⟨bx, 0, none⟩)) rfl (Or.inl ⟨by kernel_rfl, ?_⟩) ?_
  · intro w' ⟨_, s1, s2, s3, s4⟩; clear hHeld; go_simp
  try simp only [getElem_toArray, getElem_cons_succ, getElem_cons_zero, Act.put, setIfInBounds_toArray, set_cons_zero, set_cons_succ]
  refine tk 44 (.int .i64 f.kind) rfl (Or.inl ⟨by kernel_rfl, ?_⟩) ?_
  · intro w' ⟨_, s1, s2, s3, s4⟩; clear hHeld; go_simp
  try simp only [getElem_toArray, getElem_cons_succ, getElem_cons_zero, Act.put, setIfInBounds_toArray, set_cons_zero, set_cons_succ]
  refine tk 46 (.string s) rfl (Or.inl ⟨by kernel_rfl, ?_⟩) ?_
  · intro w' ⟨_, s1, s2, s3, s4⟩; clear hHeld; go_simp
  try simp only [getElem_toArray, getElem_cons_succ, getElem_cons_zero, Act.put, setIfInBounds_toArray, set_cons_zero, set_cons_succ]
  refine wpAnyH_ready (rs := [45]) (by kernel_rfl) (by simp) ?_
  refine AllReadyH.cons rfl (fun K hK => ?_) AllReadyH.nil
  go_simp
  with_reducible refine (HLY.out _ HB9.out).mono ?_
  rintro e w11 ⟨rfl, HB11⟩
  refine hK.out _ _ (HS6.out _ HB11.out) (fun hHeld => ?_)
  clear hK
  try simp only [getElem_toArray, getElem_cons_succ, getElem_cons_zero, Act.put, setIfInBounds_toArray, set_cons_zero, set_cons_succ]
  refine tk 47 (.bool false) rfl (Or.inl ⟨by kernel_rfl, ?_⟩) ?_
  · intro w' ⟨_, s1, s2, s3, s4⟩; clear hHeld; go_simp
  try simp only [getElem_toArray, getElem_cons_succ, getElem_cons_zero, Act.put, setIfInBounds_toArray, set_cons_zero, set_cons_succ]
  refine tk 48 (.bool false) rfl (Or.inl ⟨by kernel_rfl, ?_⟩) ?_
  · intro w' ⟨_, s1, s2, s3, s4⟩; clear hHeld; go_simp
  try simp only [getElem_toArray, getElem_cons_succ, getElem_cons_zero, Act.put, setIfInBounds_toArray, set_cons_zero, set_cons_succ]
  refine wpAnyH_done (by kernel_rfl) ?_ _
  try simp only [getElem_toArray, getElem_cons_succ, getElem_cons_zero, Act.put, setIfInBounds_toArray, set_cons_zero, set_cons_succ]
  clear hHeld
  have HB12 : Hid (Below w.heap.size w w11) := Lib.hid (HB6.out.trans (HB11.out.mono HB6.out.size))
  have HRA12 : Hid (Rd w11 w11.heap.size A1 ((putB f).map bv)) := Lib.hid ((HRA6.out.below HB11.out).more HB11.out.size)
  have HR12 := Lib.hid (HR6.out.below HB11.out (by omega))
  have hz11 : w6.heap.size ≤ w11.heap.size := HB11.out.size
  have HF12 := Lib.hid ((HF.out.below HB12.out).more HB12.out.size)
  have HE12 := Lib.hid (HE.out.below h20 HB12.out)
  have HE512 := Lib.hid (HE5.out.below h20 HB12.out)
  have HGB : Hid (getB (putB f) = some f.pl) := Lib.hid (getB_putB HVL.out HF.out.fit)
  have ht := total_1020 f HVL.out
  have hpl := putB_length f HVL.out
  have hn1k : (n1 : Int) ≤ 1024 := by have := HL1.out; omega
  have hn1m : n1 ≤ 1024 := by omega
  clear ht hpl HS6 HCK HNU HRW HLY HRA6 HRC6 HBD
  go_wp2_with fail
  with_reducible refine (fgot_anyP n1 c1 A1 (putB f) E 159 (.pointer (some a)) w11 HE12.out HE512.out HL1.out hn1 hc1 HRA12.out).mono ?_
  rintro e w13 ⟨f2, v2, er2, rfl, HV13⟩
  have HV2A : Hid (v2 = .agg (f2.cells f2.bs.length).toArray) := Lib.hid HV13.out.1
  have hz13 : w11.heap.size ≤ w13.heap.size := HV13.out.2.1.size
  have HB13 := Lib.hid (HB12.out.trans (HV13.out.2.1.mono HB12.out.size))
  have HR13 := Lib.hid (HR12.out.below HV13.out.2.1 (by omega))
  have HF13 := Lib.hid ((HF12.out.below HV13.out.2.1).more hz13)
  have HG13 : Hid (f2.ok w13 w13.heap.size) := Lib.hid HV13.out.2.2.1
  have her : er2 = .nilIface ∧ f2.pl = f.pl := by
    rcases HV13.out.2.2.2 with ⟨h1, _⟩ | ⟨h1, h2⟩
    · rw [HGB.out] at h1; cases h1
    · rw [HGB.out] at h1; exact ⟨h2, (Option.some.inj h1).symm⟩
  obtain ⟨rfl, hpp⟩ := her
  have HST : Hid (∀ (v u : Value) (w : World), Hid (v = .agg (f2.cells f2.bs.length).toArray) → Hid (u = f.v) → f2.ok w w.heap.size → f.ok w w.heap.size → Calls Tryd.prog 22 #[v, u] w fun e w' => e = .returned (.bool true) ∧ Hid (Below w.heap.size w w')) := Lib.hid (fun v u w hv hu hf hg => by
    have h := rsame_any f2 f v u w hv.out hu.out hf hg
    rw [(sameB_iff f2 f).2 hpp] at h
    exact h)
  have HLG : Hid ((Tryd.prog.info? 25).map (·.size) = some (f2.cells f2.bs.length).length) := Lib.hid size25
  clear HV13 hpp HRA12 HR12 HF12 HE12 HE512
  go_wp2_with (first
    | (refine H.wl_allocAt rfl 25 rfl 9 rfl _ _ info25' ?_
       intro w14 HA14 HB14 HZ14
       have hz14 : w13.heap.size < w14.heap.size := by rw [HZ14.out]; omega)
    | (refine wl_store rfl 25 (.tmp 9) (.tmp 84) rfl w13.heap.size _ (f2.cells f2.bs.length) rfl HV2A.out rfl 25 _ HA14.out HLG.out rfl (cells_ok f2 _) ?_
       intro w15 HR15 HS15 HZ15
       have hz15 : w14.heap.size = w15.heap.size := HZ15.out.symm
       have hb15 : Below w13.heap.size w13 w15 := HB14.out.trans (HS15.out.below (Nat.le_refl _) (by omega))
       have HB15 := Lib.hid (HB13.out.trans (hb15.mono HB13.out.size))
       have HRf := Lib.hid (HR13.out.below hb15 (by omega))
       have HF15 := Lib.hid ((HF13.out.below hb15).more hb15.size)
       have HG15 := Lib.hid ((HG13.out.below hb15).more hb15.size)
       clear hb15)
    | (refine wl_loadF (by kernel_rfl) (.tmp 9) rfl w13.heap.size rfl _ HR15.out HLG.out ?_
       intro vr HVR)
    | (refine wl_loadF (by kernel_rfl) (.tmp 1) rfl bx rfl _ HRf.out HLF.out ?_
       intro vs HVS))
  have HVS2 : Hid (vs = f.v) := Lib.hid (HVS.out.trans HV2.out)
  with_reducible refine (HST.out vr vs w15 HVR HVS2 HG15.out HF15.out).mono ?_
  rintro e w16 ⟨rfl, HBs⟩
  go_wp2_with fail
  go_ret
  exact ⟨rfl, HB15.out.trans (HBs.out.mono HB15.out.size)⟩
set_option maxRecDepth 100000 in
set_option maxHeartbeats 8000000 in
theorem puts_g1 (f : Fr) (m : Nat) (v : Value) (E : Nat → Value) (ad : Nat → Addr) (a : Addr) (w : World) (hm : Hid (f.bs.length = m)) (hv : Hid (v = .agg (f.cells m).toArray)) (hE : Env w E 159 (.pointer (some a))) (hE5 : F.Errs w E) (h18 : Eighteen w ad) (ha : ad 0 = a) (hf : f.ok w w.heap.size) (hval : valid f = true) (hk : 7 ≤ f.kind ∧ f.kind ≤ 17) :
    Calls Tryd.prog 3 #[v] w fun e w' => e = .returned (.bool true) ∧ Below w.heap.size w w' := by
  have HE := Lib.hid hE
  have HE5 := Lib.hid hE5
  have H18 := Lib.hid h18
  have HAD := Lib.hid ha
  have HF := Lib.hid hf
  have h20 := hE.size
  have HVL := Lib.hid hval
  have HV2 : Hid (Value.agg (f.cells m).toArray = f.v) := Lib.hid (by unfold Fr.v; rw [hm.out])
  have HLF : Hid ((Tryd.prog.info? 25).map (·.size) = some (f.cells m).length) := Lib.hid size25
  clear hE hE5 h18 ha hf hval
  obtain ⟨bx, HBX⟩ : ∃ bx, H.Shut (w.heap.size = bx) := ⟨_, ⟨rfl⟩⟩
  have hbx : w.heap.size ≤ bx := by rw [HBX.out]; exact Nat.le_refl _
  go_enter Tryd.func3, Tryd.ntmps3
  go_wp2_with (first
    | (refine wl_box rfl 25 (.tmp 0) rfl (f.cells m) hv.out ?_
       intro w1 HR1 HB1 HZ1))
  have hz1 : w1.heap.size = bx + 1 := by rw [HZ1.out, HBX.out]
  rw [HBX.out] at HR1 ⊢
  have HE1 := Lib.hid (HE.out.below h20 HB1.out)
  with_reducible refine (alive_any E a w1 HE1.out).mono ?_
  rintro e w2 ⟨rfl, HB12⟩
  have hz2 : w1.heap.size ≤ w2.heap.size := HB12.out.size
  have HR2 := Lib.hid (HR1.out.below HB12.out (by omega))
  have HB2 : Hid (Below w.heap.size w w2) := Lib.hid (HB1.out.trans (HB12.out.mono (by omega)))
  have HE2 := Lib.hid (HE.out.below h20 HB2.out)
  have HF2 := Lib.hid ((HF.out.below HB2.out).more HB2.out.size)
  clear HR1 HZ1 HB1 HE1 HB12
  go_wp2_with (first
    | (refine wl_load rfl 25 (.tmp 1) rfl bx rfl 25 _ _ HR2.out under25.choose_spec rfl size25 ?_
       intro vq HVQ))
  have HVQ2 : Hid (vq = f.v) := Lib.hid (HVQ.out.trans HV2.out)
  with_reducible refine (fputs_good f vq E 159 (.pointer (some a)) w2 HVQ2 HE2.out HF2.out HVL.out).mono ?_
  rintro e w3 ⟨A1, n1, c1, rfl, HP1⟩
  have hz3 : w2.heap.size ≤ w3.heap.size := HP1.out.below.size
  have HB3 : Hid (Below w.heap.size w w3) := Lib.hid (HB2.out.trans (HP1.out.below.mono HB2.out.size))
  have HR3 := Lib.hid (HR2.out.below HP1.out.below (by omega))
  have HF3 := Lib.hid ((HF.out.below HB3.out).more HB3.out.size)
  have HS3 : Hid (∀ w', Below w3.heap.size w3 w' → w'.rangeAt bx 0 (f.cells m)) := Lib.hid (fun w' hb => (HR3.out.below hb (by omega)).range (es := []) (by simp))
  have HBD : Hid (Below w3.heap.size w3 w3.drew) := Lib.hid ((Below.refl _ _).drew)
  clear HVQ HVQ2 HR2 HE2 HF2
  go_wp2_with fail
  refine wp_region_held_drew (S := fun w' => w'.rangeAt bx 0 (f.cells m)) (by kernel_rfl) (HS3.out _ HBD.out) (fun hHeld => ?_)
  refine tk 1 (.agg (f.cells m).toArray) rfl (yieldsIf_load_mid (by kernel_rfl) 25 (.tmp 1) rfl bx 0 rfl (f.cells m) _ (fun w' hSw => hSw) under25.choose_spec rfl HLF.out) ?_
  try simp only [getElem_toArray, getElem_cons_succ, getElem_cons_zero, Act.put, setIfInBounds_toArray, set_cons_zero, set_cons_succ]
  refine wpAnyH_ready (rs := [0]) (by kernel_rfl) (by simp) ?_
  refine AllReadyH.cons rfl (fun K hK => ?_) AllReadyH.nil
  go_simp
  with_reducible refine (new_any w3.drew).mono ?_
  rintro e w4 ⟨g, rfl, HV4⟩
  have HB34 : Hid (Below w3.heap.size w3 w4) := Lib.hid (HBD.out.trans (HV4.out.2.mono HBD.out.size))
  have hz4 : w3.heap.size ≤ w4.heap.size := HB34.out.size
  have HT4 := Lib.hid HV4.out.1
  have HF4 := Lib.hid ((HF3.out.below HB34.out).more HB34.out.size)
  refine hK.out _ _ (HS3.out _ HB34.out) (fun hHeld => ?_)
  clear hK K HV4
  try simp only [getElem_toArray, getElem_cons_succ, getElem_cons_zero, Act.put, setIfInBounds_toArray, set_cons_zero, set_cons_succ]
  refine wpAnyH_ready (rs := [2]) (by kernel_rfl) (by simp) ?_
  refine AllReadyH.cons rfl (fun K hK => ?_) AllReadyH.nil
  go_simp
  with_reducible refine (rputs_good f _ g w4 HV2 HT4.out HF4.out HVL.out).mono ?_
  rintro e w5 ⟨A2, n2, c2, rfl, HP2⟩
  have HB35 : Hid (Below w3.heap.size w3 w5) := Lib.hid (HB34.out.trans (HP2.out.below.mono HB34.out.size))
  have hz5 : w4.heap.size ≤ w5.heap.size := HP2.out.below.size
  refine hK.out _ _ (HS3.out _ HB35.out) (fun hHeld => ?_)
  clear hK K
  try simp only [getElem_toArray, getElem_cons_succ, getElem_cons_zero, Act.put, setIfInBounds_toArray, set_cons_zero, set_cons_succ]
  refine tk 3 (.tuple #[.slice A2 n2 c2, .bool true]) rfl (Or.inl ⟨by kernel_rfl, ?_⟩) ?_
  · intro w' hSw; go_simp
  try simp only [getElem_toArray, getElem_cons_succ, getElem_cons_zero, Act.put, setIfInBounds_toArray, set_cons_zero, set_cons_succ]
  refine tk 4 (.slice A2 n2 c2) rfl (Or.inl ⟨by kernel_rfl, ?_⟩) ?_
  · intro w' hSw; go_simp
  try simp only [getElem_toArray, getElem_cons_succ, getElem_cons_zero, Act.put, setIfInBounds_toArray, set_cons_zero, set_cons_succ]
  refine tk 5 (.bool true) rfl (Or.inl ⟨by kernel_rfl, ?_⟩) ?_
  · intro w' hSw; go_simp
  try simp only [getElem_toArray, getElem_cons_succ, getElem_cons_zero, Act.put, setIfInBounds_toArray, set_cons_zero, set_cons_succ]
  refine tk 6 (.slice A2 n2 c2) rfl (Or.inl ⟨by kernel_rfl, ?_⟩) ?_
  · intro w' hSw; go_simp
  try simp only [getElem_toArray, getElem_cons_succ, getElem_cons_zero, Act.put, setIfInBounds_toArray, set_cons_zero, set_cons_succ]
  refine tk 7 (.bool true) rfl (Or.inl ⟨by kernel_rfl, ?_⟩) ?_
  · intro w' hSw; go_simp
  try simp only [getElem_toArray, getElem_cons_succ, getElem_cons_zero, Act.put, setIfInBounds_toArray, set_cons_zero, set_cons_succ]
  refine wpAnyH_done (by kernel_rfl) ?_ _
  try simp only [getElem_toArray, getElem_cons_succ, getElem_cons_zero, Act.put, setIfInBounds_toArray, set_cons_zero, set_cons_succ]
  clear hHeld
  have HB5 := Lib.hid (HB3.out.trans (HB35.out.mono HB3.out.size))
  have HR5 := Lib.hid (HR3.out.below HB35.out (by omega))
  have HRA5 : Hid (Rd w5 w5.heap.size A1 ((putB f).map bv)) := Lib.hid ((HP1.out.rd.below HB35.out).more HB35.out.size)
  have HRC5 : Hid (Rd w5 w5.heap.size A2 ((putB f).map bv)) := Lib.hid HP2.out.rd
  have HL1 : Hid (((putB f) : List UInt8).length = n1) := Lib.hid HP1.out.len
  have HL2 : Hid (((putB f) : List UInt8).length = n2) := Lib.hid HP2.out.len
  have hn1 : n1 ≤ c1 := HP1.out.cap
  have hc1 : c1 ≤ 9223372036854775807 := HP1.out.max
  have c0 : w5.cell? ⟨bx, 0, none⟩ = some (.int .i64 f.kind) := HR5.out.cell 0
  obtain ⟨s, HS⟩ : ∃ s : ByteArray, H.Shut (s = ⟨(layL f.kind).toArray⟩) := ⟨_, ⟨rfl⟩⟩
  obtain ⟨kk, HKK⟩ : ∃ kk, H.Shut ((used f.kind).length = kk) := ⟨_, ⟨rfl⟩⟩
  have HRC : Hid (∀ w : World, Calls Tryd.prog 16 #[.agg #[.int .i64 f.kind, .int .i64 0, .int .i64 0, .int .i64 0, .int .i64 0, .int .i64 0, .string ⟨#[]⟩, .string ⟨#[]⟩, .float .f64 0, .slice none 0 0]] w fun e w' => ∃ A, e = .returned (.tuple #[.string s, .slice A kk kk]) ∧ Hid (Below w.heap.size w w')) := Lib.hid (fun w => by
    have h := rcells_every (zf f.kind) w (zf f.kind).v (Lib.hid rfl) ({ zf0_okP w w.heap.size with kind := (show i64ok f.kind from HF.out.kind) })
    have e1 : (⟨(layL (zf f.kind).kind).toArray⟩ : ByteArray) = s := HS.out.symm
    have e2 : (used (zf f.kind).kind).length = kk := HKK.out
    rw [e1, e2] at h
    exact h.mono fun e w' ⟨A, h1, h2⟩ => ⟨A, h1, Lib.hid h2.out.2⟩)
  clear HS3 HB34 HB35 HP1 HP2 HR3 HF3 HF4 HT4 HBD HB3
  go_wp2_with fail
  with_reducible refine (HRC.out w5).mono ?_
  rintro e w6 ⟨A6, rfl, HVc⟩
  have hz6 : w5.heap.size ≤ w6.heap.size := HVc.out.size
  have HB6 := Lib.hid (HB5.out.trans (HVc.out.mono HB5.out.size))
  have HR6 := Lib.hid (HR5.out.below HVc.out (by omega))
  have HRA6 : Hid (Rd w6 w6.heap.size A1 ((putB f).map bv)) := Lib.hid ((HRA5.out.below HVc.out).more HVc.out.size)
  have HRC6 : Hid (Rd w6 w6.heap.size A2 ((putB f).map bv)) := Lib.hid ((HRC5.out.below HVc.out).more HVc.out.size)
  have HF6 := Lib.hid ((HF.out.below HB6.out).more HB6.out.size)
  have HE6 := Lib.hid (HE.out.below h20 HB6.out)
  have H186 := Lib.hid (H18.out.below H18.out.lt HB6.out)
  obtain ⟨S1, HS1⟩ : ∃ s : ByteArray, H.Shut (s = ⟨((putB f) : List UInt8).toArray⟩) := ⟨_, ⟨rfl⟩⟩
  have HS6 : Hid (∀ w', Below w6.heap.size w6 w' → w'.rangeAt bx 0 (f.cells m) ∧ w'.cell? ⟨bx, 0, none⟩ = some (.int .i64 f.kind) ∧ w'.cell? ⟨0, 0, none⟩ = some (.iface 159 (.pointer (some a))) ∧ (convert 23 9 (.slice A1 n1 c1)).run Tryd.prog w' = .ok (.string S1) w' ∧ (convert 23 9 (.slice A2 n2 c2)).run Tryd.prog w' = .ok (.string S1) w') := Lib.hid (fun w' hb => by
    rw [HS1.out]
    exact ⟨(HR6.out.below hb (by omega)).range (es := []) (by simp), (HR6.out.below hb (by omega)).cell 0, (HE6.out.below (by omega) hb).ef, (HRA6.out.below hb).toStr _ _ HL1.out, (HRC6.out.below hb).toStr _ _ HL2.out⟩)
  have HCK : Hid (∀ w', Below w6.heap.size w6 w' → Calls Tryd.prog 18 #[.agg (f.cells m).toArray] w' fun e w'' => e = .returned (.nilIface) ∧ Hid (Below w6.heap.size w6 w'')) := Lib.hid (fun w' hb => by
    have h := check_frame f _ _ w' HV2 (HE6.out.below (by omega) hb).ef (HE6.out.below (by omega) hb).size ((HF6.out.below hb).more hb.size)
    rw [HVL.out] at h
    exact h.mono fun e w'' ⟨h1, h2⟩ => ⟨h1, Lib.hid (hb.trans (h2.out.mono hb.size))⟩)
  obtain ⟨NK, HNK⟩ : ∃ K : Int, H.Shut (K = (0 : Int)) := ⟨_, ⟨rfl⟩⟩
  have HNU : Hid (∀ w', Below w6.heap.size w6 w' → Calls Tryd.prog 17 #[.nilIface] w' fun e w'' => e = .returned (.int .i64 NK) ∧ Hid (Below w6.heap.size w6 w'')) := Lib.hid (fun w' hb => by
    rw [HNK.out]
    exact (num_none w').mono fun e w'' ⟨h1, h2⟩ => ⟨h1, Lib.hid (h2 ▸ hb)⟩)
  have HRW : Hid (∀ w' : World, Calls Tryd.prog 19 #[.int .i64 f.kind] w' fun e w'' => e = .returned (.bool true) ∧ w' = w'') := Lib.hid (fun w' => row_1 f.kind _ w' hk.1 (by simpa using hk.2))
  have HLY : Hid (∀ w', Below w6.heap.size w6 w' → Calls Tryd.prog 20 #[.int .i64 f.kind] w' fun e w'' => e = .returned (.string s) ∧ Hid (Below w6.heap.size w6 w'')) := Lib.hid (fun w' hb => by
    have h := layout_any f.kind w'
    rw [← HS.out] at h
    exact h.mono fun e w'' ⟨h1, h2⟩ => ⟨h1, Lib.hid (hb.trans (h2.out.mono hb.size))⟩)
  have HBD : Hid (Below w6.heap.size w6 w6.drew) := Lib.hid ((Below.refl _ _).drew)
  have hk7 : 7 ≤ f.kind := hk.1
  have hk17 : f.kind ≤ 17 := hk.2
  clear HVc HRC HRA5 HRC5 HR5 c0
  go_wp2_with fail
  refine wp_region_held_drew (S := fun w' => w'.rangeAt bx 0 (f.cells m) ∧ w'.cell? ⟨bx, 0, none⟩ = some (.int .i64 f.kind) ∧ w'.cell? ⟨0, 0, none⟩ = some (.iface 159 (.pointer (some a))) ∧ (convert 23 9 (.slice A1 n1 c1)).run Tryd.prog w' = .ok (.string S1) w' ∧ (convert 23 9 (.slice A2 n2 c2)).run Tryd.prog w' = .ok (.string S1) w') (by kernel_rfl) (HS6.out _ HBD.out) (fun hHeld => ?_)
  refine tk 0 (.slice A1 n1 c1) rfl (Or.inl ⟨by kernel_rfl, ?_⟩) ?_
  · intro w' ⟨_, s1, s2, s3, s4⟩; clear hHeld; go_simp
  try simp only [getElem_toArray, getElem_cons_zero, Act.put, setIfInBounds_toArray, set_cons_zero, set_cons_succ]
  refine tk 1 (.string S1) rfl (Or.inl ⟨by kernel_rfl, ?_⟩) ?_
  · intro w' ⟨_, s1, s2, s3, s4⟩; clear hHeld; go_simp
  try simp only [getElem_toArray, getElem_cons_succ, getElem_cons_zero, Act.put, setIfInBounds_toArray, set_cons_zero, set_cons_succ]
  refine tk 2 (.slice A2 n2 c2) rfl (Or.inl ⟨by kernel_rfl, ?_⟩) ?_
  · intro w' ⟨_, s1, s2, s3, s4⟩; clear hHeld; go_simp
  try simp only [getElem_toArray, getElem_cons_succ, getElem_cons_zero, Act.put, setIfInBounds_toArray, set_cons_zero, set_cons_succ]
  refine tk 3 (.string S1) rfl (Or.inl ⟨by kernel_rfl, ?_⟩) ?_
  · intro w' ⟨_, s1, s2, s3, s4⟩; clear hHeld; go_simp
  try simp only [getElem_toArray, getElem_cons_succ, getElem_cons_zero, Act.put, setIfInBounds_toArray, set_cons_zero, set_cons_succ]
  refine tk 4 (.bool false) rfl (Or.inl ⟨by kernel_rfl, ?_⟩) ?_
  · intro w' ⟨_, s1, s2, s3, s4⟩; clear hHeld; go_simp
  try simp only [getElem_toArray, getElem_cons_succ, getElem_cons_zero, Act.put, setIfInBounds_toArray, set_cons_zero, set_cons_succ]
  refine tk 5 (.bool false) rfl (Or.inl ⟨by kernel_rfl, ?_⟩) ?_
  · intro w' ⟨_, s1, s2, s3, s4⟩; clear hHeld; go_simp
  try simp only [getElem_toArray, getElem_cons_succ, getElem_cons_zero, Act.put, setIfInBounds_toArray, set_cons_zero, set_cons_succ]
  refine tk 6 (.nilIface) rfl (Or.inl ⟨by kernel_rfl, ?_⟩) ?_
  · intro w' ⟨_, s1, s2, s3, s4⟩; clear hHeld; go_simp
  try simp only [getElem_toArray, getElem_cons_succ, getElem_cons_zero, Act.put, setIfInBounds_toArray, set_cons_zero, set_cons_succ]
  refine tk 7 (.bool true) rfl (Or.inl ⟨by kernel_rfl, ?_⟩) ?_
  · intro w' ⟨_, s1, s2, s3, s4⟩; clear hHeld; go_simp
  try simp only [getElem_toArray, getElem_cons_succ, getElem_cons_zero, Act.put, setIfInBounds_toArray, set_cons_zero, set_cons_succ]
  refine tk 8 (.bool true) rfl (Or.inl ⟨by kernel_rfl, ?_⟩) ?_
  · intro w' ⟨_, s1, s2, s3, s4⟩; clear hHeld; go_simp
  try simp only [getElem_toArray, getElem_cons_succ, getElem_cons_zero, Act.put, setIfInBounds_toArray, set_cons_zero, set_cons_succ]
  refine tk 9 (.bool false) rfl (Or.inl ⟨by kernel_rfl, ?_⟩) ?_
  · intro w' ⟨_, s1, s2, s3, s4⟩; clear hHeld; go_simp
  try simp only [getElem_toArray, getElem_cons_succ, getElem_cons_zero, Act.put, setIfInBounds_toArray, set_cons_zero, set_cons_succ]
  refine tk 10 (.bool false) rfl (Or.inl ⟨by kernel_rfl, ?_⟩) ?_
  · intro w' ⟨_, s1, s2, s3, s4⟩; clear hHeld; go_simp
  try simp only [getElem_toArray, getElem_cons_succ, getElem_cons_zero, Act.put, setIfInBounds_toArray, set_cons_zero, set_cons_succ]
  refine tk 11 (.bool false) rfl (Or.inl ⟨by kernel_rfl, ?_⟩) ?_
  · intro w' ⟨_, s1, s2, s3, s4⟩; clear hHeld; go_simp
  try simp only [getElem_toArray, getElem_cons_succ, getElem_cons_zero, Act.put, setIfInBounds_toArray, set_cons_zero, set_cons_succ]
  refine tk 12 (.nilIface) rfl (Or.inl ⟨by kernel_rfl, ?_⟩) ?_
  · intro w' ⟨_, s1, s2, s3, s4⟩; clear hHeld; go_simp
  try simp only [getElem_toArray, getElem_cons_succ, getElem_cons_zero, Act.put, setIfInBounds_toArray, set_cons_zero, set_cons_succ]
  refine tk 13 (.bool false) rfl (Or.inl ⟨by kernel_rfl, ?_⟩) ?_
  · intro w' ⟨_, s1, s2, s3, s4⟩; clear hHeld; go_simp
  try simp only [getElem_toArray, getElem_cons_succ, getElem_cons_zero, Act.put, setIfInBounds_toArray, set_cons_zero, set_cons_succ]
  refine tk 14 (.bool false) rfl (Or.inl ⟨by kernel_rfl, ?_⟩) ?_
  · intro w' ⟨_, s1, s2, s3, s4⟩; clear hHeld; go_simp
  try simp only [getElem_toArray, getElem_cons_succ, getElem_cons_zero, Act.put, setIfInBounds_toArray, set_cons_zero, set_cons_succ]
  refine tk 15 (undef) rfl (Or.inr ⟨by kernel_rfl, rfl⟩) ?_
  try simp only [getElem_toArray, getElem_cons_succ, getElem_cons_zero, Act.put, setIfInBounds_toArray, set_cons_zero, set_cons_succ]
  refine tk 16 (undef) rfl (Or.inr ⟨by kernel_rfl, rfl⟩) ?_
  try simp only [getElem_toArray, getElem_cons_succ, getElem_cons_zero, Act.put, setIfInBounds_toArray, set_cons_zero, set_cons_succ]
  refine tk 17 (undef) rfl (Or.inr ⟨by kernel_rfl, rfl⟩) ?_
  try simp only [getElem_toArray, getElem_cons_succ, getElem_cons_zero, Act.put, setIfInBounds_toArray, set_cons_zero, set_cons_succ]
  refine tk 18 (.bool false) rfl (Or.inl ⟨by kernel_rfl, ?_⟩) ?_
  · intro w' ⟨_, s1, s2, s3, s4⟩; clear hHeld; go_simp
  try simp only [getElem_toArray, getElem_cons_succ, getElem_cons_zero, Act.put, setIfInBounds_toArray, set_cons_zero, set_cons_succ]
  refine tk 19 (.bool false) rfl (Or.inl ⟨by kernel_rfl, ?_⟩) ?_
  · intro w' ⟨_, s1, s2, s3, s4⟩; clear hHeld; go_simp
  try simp only [getElem_toArray, getElem_cons_succ, getElem_cons_zero, Act.put, setIfInBounds_toArray, set_cons_zero, set_cons_succ]
  refine tk 20 (.bool false) rfl (Or.inl ⟨by kernel_rfl, ?_⟩) ?_
  · intro w' ⟨_, s1, s2, s3, s4⟩; clear hHeld; go_simp
  try simp only [getElem_toArray, getElem_cons_succ, getElem_cons_zero, Act.put, setIfInBounds_toArray, set_cons_zero, set_cons_succ]
  refine tk 21 (.agg (f.cells m).toArray) rfl (yieldsIf_load_mid (by kernel_rfl) 25 (.tmp 1) rfl bx 0 rfl (f.cells m) _ (fun w' hSw => hSw.1) under25.choose_spec rfl HLF.out) ?_
  try simp only [getElem_toArray, getElem_cons_succ, getElem_cons_zero, Act.put, setIfInBounds_toArray, set_cons_zero, set_cons_succ]
  refine tk 24 (.nilIface) rfl (Or.inl ⟨by kernel_rfl, ?_⟩) ?_
  · intro w' ⟨_, s1, s2, s3, s4⟩; clear hHeld; go_simp
  try simp only [getElem_toArray, getElem_cons_succ, getElem_cons_zero, Act.put, setIfInBounds_toArray, set_cons_zero, set_cons_succ]
  refine wpAnyH_ready (rs := [22]) (by kernel_rfl) (by simp) ?_
  refine AllReadyH.cons rfl (fun K hK => ?_) AllReadyH.nil
  go_simp
  with_reducible refine (HCK.out _ HBD.out).mono ?_
  rintro e w7 ⟨rfl, HB7⟩
  refine hK.out _ _ (HS6.out _ HB7.out) (fun hHeld => ?_)
  clear hK
  try simp only [getElem_toArray, getElem_cons_succ, getElem_cons_zero, Act.put, setIfInBounds_toArray, set_cons_zero, set_cons_succ]
  refine wpAnyH_ready (rs := [23]) (by kernel_rfl) (by simp) ?_
  refine AllReadyH.cons rfl (fun K hK => ?_) AllReadyH.nil
  go_simp
  with_reducible refine (HNU.out _ HB7.out).mono ?_
  rintro e w8 ⟨rfl, HB8⟩
  refine hK.out _ _ (HS6.out _ HB8.out) (fun hHeld => ?_)
  clear hK
  try simp only [getElem_toArray, getElem_cons_succ, getElem_cons_zero, Act.put, setIfInBounds_toArray, set_cons_zero, set_cons_succ]
  refine wpAnyH_ready (rs := [25]) (by kernel_rfl) (by simp) ?_
  refine AllReadyH.cons rfl (fun K hK => ?_) AllReadyH.nil
  go_simp
  with_reducible refine (HNU.out _ HB8.out).mono ?_
  rintro e w9 ⟨rfl, HB9⟩
  refine hK.out _ _ (HS6.out _ HB9.out) (fun hHeld => ?_)
  clear hK
  try simp only [getElem_toArray, getElem_cons_succ, getElem_cons_zero, Act.put, setIfInBounds_toArray, set_cons_zero, set_cons_succ]
  refine tk 26 (.bool false) rfl (Or.inl ⟨by kernel_rfl, ?_⟩) ?_
  · intro w' ⟨_, s1, s2, s3, s4⟩; clear hHeld; go_simp
  try simp only [getElem_toArray, getElem_cons_succ, getElem_cons_zero, Act.put, setIfInBounds_toArray, set_cons_zero, set_cons_succ]
  refine tk 27 (.bool false) rfl (Or.inl ⟨by kernel_rfl, ?_⟩) ?_
  · intro w' ⟨_, s1, s2, s3, s4⟩; clear hHeld; go_simp
  try simp only [getElem_toArray, getElem_cons_succ, getElem_cons_zero, Act.put, setIfInBounds_toArray, set_cons_zero, set_cons_succ]
  refine tk 28 (.bool false) rfl (Or.inl ⟨by kernel_rfl, ?_⟩) ?_
  · intro w' ⟨_, s1, s2, s3, s4⟩; clear hHeld; go_simp
  try simp only [getElem_toArray, getElem_cons_succ, getElem_cons_zero, Act.put, setIfInBounds_toArray, set_cons_zero, set_cons_succ]
  refine tk 29 (.pointer (some ⟨bx, 0, none⟩)) rfl (Or.inl ⟨by kernel_rfl, ?_⟩) ?_
  · intro w' ⟨_, s1, s2, s3, s4⟩; clear hHeld; go_simp
  try simp only [getElem_toArray, getElem_cons_succ, getElem_cons_zero, Act.put, setIfInBounds_toArray, set_cons_zero, set_cons_succ]
  refine tk 30 (.int .i64 f.kind) rfl (Or.inl ⟨by kernel_rfl, ?_⟩) ?_
  · intro w' ⟨_, s1, s2, s3, s4⟩; clear hHeld; go_simp
  try simp only [getElem_toArray, getElem_cons_succ, getElem_cons_zero, Act.put, setIfInBounds_toArray, set_cons_zero, set_cons_succ]
  refine tk 32 (.pointer (some ⟨bx, 0, none⟩)) rfl (Or.inl ⟨by kernel_rfl, ?_⟩) ?_
  · intro w' ⟨_, s1, s2, s3, s4⟩; clear hHeld; go_simp
  try simp only [getElem_toArray, getElem_cons_succ, getElem_cons_zero, Act.put, setIfInBounds_toArray, set_cons_zero, set_cons_succ]
  refine tk 33 (.int .i64 f.kind) rfl (Or.inl ⟨by kernel_rfl, ?_⟩) ?_
  · intro w' ⟨_, s1, s2, s3, s4⟩; clear hHeld; go_simp
  try simp only [getElem_toArray, getElem_cons_succ, getElem_cons_zero, Act.put, setIfInBounds_toArray, set_cons_zero, set_cons_succ]
  refine tk 34 (.bool true) rfl (Or.inl ⟨by kernel_rfl, ?_⟩) ?_
  · intro w' ⟨_, s1, s2, s3, s4⟩; clear hHeld; go_simp
  try simp only [getElem_toArray, getElem_cons_succ, getElem_cons_zero, Act.put, setIfInBounds_toArray, set_cons_zero, set_cons_succ]
  refine wpAnyH_ready (rs := [31]) (by kernel_rfl) (by simp) ?_
  refine AllReadyH.cons rfl (fun K hK => ?_) AllReadyH.nil
  go_simp
  with_reducible refine (HRW.out _).mono ?_
  rintro e w10 ⟨rfl, rfl⟩
  refine hK.out _ _ (HS6.out _ HB9.out) (fun hHeld => ?_)
  clear hK
  try simp only [getElem_toArray, getElem_cons_succ, getElem_cons_zero, Act.put, setIfInBounds_toArray, set_cons_zero, set_cons_succ]
  refine tk 35 (.bool true) rfl (Or.inl ⟨by kernel_rfl, ?_⟩) ?_
  · intro w' ⟨_, s1, s2, s3, s4⟩; clear hHeld; go_simp
  try simp only [getElem_toArray, getElem_cons_succ, getElem_cons_zero, Act.put, setIfInBounds_toArray, set_cons_zero, set_cons_succ]
  refine tk 36 (.pointer (some ⟨bx, 0, none⟩)) rfl (Or.inl ⟨by kernel_rfl, ?_⟩) ?_
  · intro w' ⟨_, s1, s2, s3, s4⟩; clear hHeld; go_simp
  try simp only [getElem_toArray, getElem_cons_succ, getElem_cons_zero, Act.put, setIfInBounds_toArray, set_cons_zero, set_cons_succ]
  refine tk 37 (.int .i64 f.kind) rfl (Or.inl ⟨by kernel_rfl, ?_⟩) ?_
  · intro w' ⟨_, s1, s2, s3, s4⟩; clear hHeld; go_simp
  try simp only [getElem_toArray, getElem_cons_succ, getElem_cons_zero, Act.put, setIfInBounds_toArray, set_cons_zero, set_cons_succ]
  refine tk 38 (.bool true) rfl (Or.inl ⟨by kernel_rfl, ?_⟩) ?_
  · intro w' ⟨_, s1, s2, s3, s4⟩; clear hHeld; go_simp
  try simp only [getElem_toArray, getElem_cons_succ, getElem_cons_zero, Act.put, setIfInBounds_toArray, set_cons_zero, set_cons_succ]
  refine tk 39 (.bool true) rfl (Or.inl ⟨by kernel_rfl, ?_⟩) ?_
  · intro w' ⟨_, s1, s2, s3, s4⟩; clear hHeld; go_simp
  try simp only [getElem_toArray, getElem_cons_succ, getElem_cons_zero, Act.put, setIfInBounds_toArray, set_cons_zero, set_cons_succ]
  refine tk 40 (.bool false) rfl (Or.inl ⟨by kernel_rfl, ?_⟩) ?_
  · intro w' ⟨_, s1, s2, s3, s4⟩; clear hHeld; go_simp
  try simp only [getElem_toArray, getElem_cons_succ, getElem_cons_zero, Act.put, setIfInBounds_toArray, set_cons_zero, set_cons_succ]
  refine tk 41 (.bool false) rfl (Or.inl ⟨by kernel_rfl, ?_⟩) ?_
  · intro w' ⟨_, s1, s2, s3, s4⟩; clear hHeld; go_simp
  try simp only [getElem_toArray, getElem_cons_succ, getElem_cons_zero, Act.put, setIfInBounds_toArray, set_cons_zero, set_cons_succ]
  refine tk 42 (.bool false) rfl (Or.inl ⟨by kernel_rfl, ?_⟩) ?_
  · intro w' ⟨_, s1, s2, s3, s4⟩; clear hHeld; go_simp
  try simp only [getElem_toArray, getElem_cons_succ, getElem_cons_zero, Act.put, setIfInBounds_toArray, set_cons_zero, set_cons_succ]
  refine tk 43 (.pointer (some ⟨bx, 0, none⟩)) rfl (Or.inl ⟨by kernel_rfl, ?_⟩) ?_
  · intro w' ⟨_, s1, s2, s3, s4⟩; clear hHeld; go_simp
  try simp only [getElem_toArray, getElem_cons_succ, getElem_cons_zero, Act.put, setIfInBounds_toArray, set_cons_zero, set_cons_succ]
  refine tk 44 (.int .i64 f.kind) rfl (Or.inl ⟨by kernel_rfl, ?_⟩) ?_
  · intro w' ⟨_, s1, s2, s3, s4⟩; clear hHeld; go_simp
  try simp only [getElem_toArray, getElem_cons_succ, getElem_cons_zero, Act.put, setIfInBounds_toArray, set_cons_zero, set_cons_succ]
  refine tk 46 (.string s) rfl (Or.inl ⟨by kernel_rfl, ?_⟩) ?_
  · intro w' ⟨_, s1, s2, s3, s4⟩; clear hHeld; go_simp
  try simp only [getElem_toArray, getElem_cons_succ, getElem_cons_zero, Act.put, setIfInBounds_toArray, set_cons_zero, set_cons_succ]
  refine wpAnyH_ready (rs := [45]) (by kernel_rfl) (by simp) ?_
  refine AllReadyH.cons rfl (fun K hK => ?_) AllReadyH.nil
  go_simp
  with_reducible refine (HLY.out _ HB9.out).mono ?_
  rintro e w11 ⟨rfl, HB11⟩
  refine hK.out _ _ (HS6.out _ HB11.out) (fun hHeld => ?_)
  clear hK
  try simp only [getElem_toArray, getElem_cons_succ, getElem_cons_zero, Act.put, setIfInBounds_toArray, set_cons_zero, set_cons_succ]
  refine tk 47 (.bool false) rfl (Or.inl ⟨by kernel_rfl, ?_⟩) ?_
  · intro w' ⟨_, s1, s2, s3, s4⟩; clear hHeld; go_simp
  try simp only [getElem_toArray, getElem_cons_succ, getElem_cons_zero, Act.put, setIfInBounds_toArray, set_cons_zero, set_cons_succ]
  refine tk 48 (.bool false) rfl (Or.inl ⟨by kernel_rfl, ?_⟩) ?_
  · intro w' ⟨_, s1, s2, s3, s4⟩; clear hHeld; go_simp
  try simp only [getElem_toArray, getElem_cons_succ, getElem_cons_zero, Act.put, setIfInBounds_toArray, set_cons_zero, set_cons_succ]
  refine wpAnyH_done (by kernel_rfl) ?_ _
  try simp only [getElem_toArray, getElem_cons_succ, getElem_cons_zero, Act.put, setIfInBounds_toArray, set_cons_zero, set_cons_succ]
  clear hHeld
  have HB12 : Hid (Below w.heap.size w w11) := Lib.hid (HB6.out.trans (HB11.out.mono HB6.out.size))
  have HRA12 : Hid (Rd w11 w11.heap.size A1 ((putB f).map bv)) := Lib.hid ((HRA6.out.below HB11.out).more HB11.out.size)
  have HR12 := Lib.hid (HR6.out.below HB11.out (by omega))
  have hz11 : w6.heap.size ≤ w11.heap.size := HB11.out.size
  have HF12 := Lib.hid ((HF.out.below HB12.out).more HB12.out.size)
  have HE12 := Lib.hid (HE.out.below h20 HB12.out)
  have HE512 := Lib.hid (HE5.out.below h20 HB12.out)
  have HGB : Hid (getB (putB f) = some f.pl) := Lib.hid (getB_putB HVL.out HF.out.fit)
  have ht := total_1020 f HVL.out
  have hpl := putB_length f HVL.out
  have hn1k : (n1 : Int) ≤ 1024 := by have := HL1.out; omega
  have hn1m : n1 ≤ 1024 := by omega
  clear ht hpl HS6 HCK HNU HRW HLY HRA6 HRC6 HBD
  go_wp2_with fail
  with_reducible refine (fgot_anyP n1 c1 A1 (putB f) E 159 (.pointer (some a)) w11 HE12.out HE512.out HL1.out hn1 hc1 HRA12.out).mono ?_
  rintro e w13 ⟨f2, v2, er2, rfl, HV13⟩
  have HV2A : Hid (v2 = .agg (f2.cells f2.bs.length).toArray) := Lib.hid HV13.out.1
  have hz13 : w11.heap.size ≤ w13.heap.size := HV13.out.2.1.size
  have HB13 := Lib.hid (HB12.out.trans (HV13.out.2.1.mono HB12.out.size))
  have HR13 := Lib.hid (HR12.out.below HV13.out.2.1 (by omega))
  have HF13 := Lib.hid ((HF12.out.below HV13.out.2.1).more hz13)
  have HG13 : Hid (f2.ok w13 w13.heap.size) := Lib.hid HV13.out.2.2.1
  have her : er2 = .nilIface ∧ f2.pl = f.pl := by
    rcases HV13.out.2.2.2 with ⟨h1, _⟩ | ⟨h1, h2⟩
    · rw [HGB.out] at h1; cases h1
    · rw [HGB.out] at h1; exact ⟨h2, (Option.some.inj h1).symm⟩
  obtain ⟨rfl, hpp⟩ := her
  have HST : Hid (∀ (v u : Value) (w : World), Hid (v = .agg (f2.cells f2.bs.length).toArray) → Hid (u = f.v) → f2.ok w w.heap.size → f.ok w w.heap.size → Calls Tryd.prog 22 #[v, u] w fun e w' => e = .returned (.bool true) ∧ Hid (Below w.heap.size w w')) := Lib.hid (fun v u w hv hu hf hg => by
    have h := rsame_any f2 f v u w hv.out hu.out hf hg
    rw [(sameB_iff f2 f).2 hpp] at h
    exact h)
  have HLG : Hid ((Tryd.prog.info? 25).map (·.size) = some (f2.cells f2.bs.length).length) := Lib.hid size25
  clear HV13 hpp HRA12 HR12 HF12 HE12 HE512
  go_wp2_with (first
    | (refine H.wl_allocAt rfl 25 rfl 9 rfl _ _ info25' ?_
       intro w14 HA14 HB14 HZ14
       have hz14 : w13.heap.size < w14.heap.size := by rw [HZ14.out]; omega)
    | (refine wl_store rfl 25 (.tmp 9) (.tmp 84) rfl w13.heap.size _ (f2.cells f2.bs.length) rfl HV2A.out rfl 25 _ HA14.out HLG.out rfl (cells_ok f2 _) ?_
       intro w15 HR15 HS15 HZ15
       have hz15 : w14.heap.size = w15.heap.size := HZ15.out.symm
       have hb15 : Below w13.heap.size w13 w15 := HB14.out.trans (HS15.out.below (Nat.le_refl _) (by omega))
       have HB15 := Lib.hid (HB13.out.trans (hb15.mono HB13.out.size))
       have HRf := Lib.hid (HR13.out.below hb15 (by omega))
       have HF15 := Lib.hid ((HF13.out.below hb15).more hb15.size)
       have HG15 := Lib.hid ((HG13.out.below hb15).more hb15.size)
       clear hb15)
    | (refine wl_loadF (by kernel_rfl) (.tmp 9) rfl w13.heap.size rfl _ HR15.out HLG.out ?_
       intro vr HVR)
    | (refine wl_loadF (by kernel_rfl) (.tmp 1) rfl bx rfl _ HRf.out HLF.out ?_
       intro vs HVS))
  have HVS2 : Hid (vs = f.v) := Lib.hid (HVS.out.trans HV2.out)
  with_reducible refine (HST.out vr vs w15 HVR HVS2 HG15.out HF15.out).mono ?_
  rintro e w16 ⟨rfl, HBs⟩
  go_wp2_with fail
  go_ret
  exact ⟨rfl, HB15.out.trans (HBs.out.mono HB15.out.size)⟩
end Go.Proofs.YtmhfhdbaeijcfaaDoor
