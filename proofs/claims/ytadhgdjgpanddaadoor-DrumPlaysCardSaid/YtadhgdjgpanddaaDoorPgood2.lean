/- The law DrumPlays, walked: a drum of the image, way 2. -/
import Derived.Test.YtadhgdjgpanddaaDoorPbad
namespace Go.Proofs.YtadhgdjgpanddaaDoor
open Go.RowKit

set_option maxHeartbeats 16000000 in
set_option maxRecDepth 100000 in
theorem plays_good2 (ad : Nat → Addr) (z0 : Int) (n N : Nat) (A : Option Addr) (c : Nat) (bs : List UInt8) (A2 : Option Addr) (L c2 : Nat) (os : List OpV) (w : World) (hE : Eighteen w ad) (hz1 : 4096 < z0) (hN : N = n * 64) (h1 : 1 ≤ n) (h2 : n ≤ 4096) (hb : bs.length = N) (hr : Rd w w.heap.size A (bs.map bv))
    (hL : os.length = L) (hLc : L ≤ c2) (hcm2 : c2 ≤ 9223372036854775807) (hos : OpsAt w w.heap.size A2 os) :
    Calls Tryd.prog 3 #[.int .i64 z0, .slice A N c, .slice A2 L c2] w fun e w' => e = .returned (.bool true) ∧ Below w.heap.size w w' := by
  have HE := Lib.hid hE
  have HB := Lib.hid hb
  have HR := Lib.hid hr
  have HN := Lib.hid hN
  have HOS := Lib.hid (And.intro hL (And.intro hLc (And.intro hcm2 hos)))
  have h18 := hE.size
  have h18' : 2 ≤ w.heap.size := by omega
  have hN1 : 64 ≤ N := by omega
  have hN2 : N ≤ 262144 := by omega
  have hq1 : ((N : Int).tmod 64) = 0 := by rw [Int.tmod_eq_emod_of_nonneg (by omega)]; omega
  have hq2 : ((N : Int) % 64) = 0 := by omega
  have hq3 : ((N : Int) == 0) = false := by simp; omega
  have hq6 : (N : Int).tdiv 64 = (n : Int) := by rw [div_nat _ (by omega)]; omega
  have hq7 : (N : Int) / 64 = (n : Int) := by omega
  have hq4 : ¬ (262400 : Int) < (N : Int) := by omega
  have hq5 : ¬ (262144 : Int) < (N : Int) := by omega
  have hz := Lib.hid (show z0 < 1 ∨ 4096 < z0 from .inr hz1)
  have hdz : decide (z0 < 1) = false := by simp; omega
  have hdz2 : decide (4096 < z0) = true := by simpa using hz1
  clear hE hb hr hN hL hLc hcm2 hos
  go_enter Tryd.func3, Tryd.ntmps3
  go_wp2_with fail
  with_reducible refine (alive_any ad w (errs_of HE.out) h18').mono ?_
  rintro x w1 ⟨rfl, H1⟩
  have HE1 := Lib.hid (HE.out.below HE.out.lt H1.out)
  go_wp2_with fail
  with_reducible refine (new_none ad z0 w1 (errs_of HE1.out) hz.out).mono ?_
  rintro x w2 ⟨rfl, H2⟩
  have HB2 : Hid (Below w.heap.size w w2) := Lib.hid (H1.out.trans (H2.out.mono H1.out.size))
  have HE2 := Lib.hid (HE.out.below HE.out.lt HB2.out)
  have c0 := (errs_of HE2.out).cell 0 (by omega)
  have heq := fun w' => err_neq (ad 0) w'
  have heq2 := fun w' => err_same (ad 0) w'
  have HR2 := Lib.hid ((HR.out.below HB2.out).more HB2.out.size)
  go_wp2_with fail
  clear heq heq2 c0
  with_reducible refine (bytes_any N c A bs w2 HB.out (by omega) HR2.out).mono ?_
  rintro x w3 ⟨X, c3, rfl, H3⟩
  have HM : Hid (N ≤ c3 ∧ c3 ≤ 9223372036854775807 ∧ Rd w3 w3.heap.size X (bs.map bv)) := Lib.hid ⟨by have := H3.out.1.1; omega, H3.out.1.2.1, by
    have h5 := H3.out.1.2.2.1.take N
    rwa [← List.map_take, List.take_append_of_le_length (by rw [HB.out]; exact Nat.le_refl _), List.take_of_length_le (by rw [HB.out]; exact Nat.le_refl _)] at h5⟩
  go_wp2_with fail
  with_reducible refine (from_ok n N c3 X bs w3 HB.out HN.out h1 h2 HM.out.1 HM.out.2.1 HM.out.2.2).mono ?_
  rintro x w4 ⟨rfl, H4⟩
  go_wp2_with fail
  with_reducible refine (rnew_ok n N w4 h1 h2 HN.out).mono ?_
  rintro x w5 ⟨rfl, H5⟩
  have HZ : Hid (w.heap.size ≤ w3.heap.size ∧ w3.heap.size + 2 ≤ w4.heap.size) := Lib.hid (by have e1 := HB2.out.size; have e2 := H3.out.2.size; have e3 := H4.out.1.row.lt; omega)
  have HB5 : Hid (Below w.heap.size w w5) := Lib.hid ((HB2.out.trans (H3.out.2.mono HB2.out.size)).trans ((H4.out.2.mono HZ.out.1).trans (H5.out.2.mono (by have := HZ.out; omega))))
  have c0 := H5.out.1.c0
  have HR5 := Lib.hid ((HR.out.below HB5.out).more HB5.out.size)
  have HMN : Hid ((bs.map bv).length = Nat.min N N ∧ 0 + (bs.map bv).length ≤ ((fresh n).all.map bv).length) := Lib.hid ⟨by rw [List.length_map, HB.out]; exact (Nat.min_self N).symm, by rw [List.length_map, List.length_map, HB.out, Nat.zero_add]; exact Nat.le_of_eq H5.out.1.len.symm⟩
  go_upto_block 0 with (first
    | (refine wl_copy rfl (.tmp 99) (.tmp 100) rfl w4.heap.size 0 N N A N c rfl rfl _ 5 H5.out.1.blk (bs.map bv) HMN.out.1 HR5.out HMN.out.2 (bytes_one bs) ?_
       intro w6 H6))
  have HI6 : Hid (PlayI w w6 (w3.heap.size + 1) w3.heap.size (w4.heap.size + 1) w4.heap.size N n 0) := Lib.hid (by
    have hz := HZ.out
    refine ⟨{ fresh n with all := bs }, ⟨(H4.out.1.under H5.out.2).turn H6.out.2.1 (by omega) (by omega), copied_at H5.out.1 HB.out ⟨H6.out.1, H6.out.2.1⟩, by omega, by omega, HB5.out.trans (H6.out.2.1.below (fun j hj => by omega) HB5.out.size)⟩, by show 0 ≤ _; omega, rfl⟩)
  clear c0 H4 H5 H6 HR5 HMN HZ
  generalize w3.heap.size + 1 = g at *
  generalize w3.heap.size = h at *
  generalize w4.heap.size + 1 = rg at *
  generalize w4.heap.size = rh at *
  refine blk0_any ad w w6 g h rg rh N n L c2 A2 os HE.out HI6.out HOS.out.1 HOS.out.2.1 HOS.out.2.2.1 HOS.out.2.2.2 _ _ _ _ _ _ _ _ _ _ _ _ _ _ _ _ _ _ _ _ _ _ _ _ _ _ _ _ _ _ _ _ _ _ _ _ _ _ _ _ _ _ _ _ _ _ _ _ _ _ _ _ _ _ _ _ _ _ _ _ _ _ _ _ _ _ _ _ _ _ _ _ _ _ _ _ _ _ _ _ _ _ _ _ _ _ _ _ _ _ _ _ _ _ _ _ _ _ _ _ _ _ _ _ _ _ _ _ _ _ _ _ _ _ _ _ _ _ _ _ _ _ _ _ _ _ _ _ _ _ _ _ _ _ _ _ _ _ _ _ _ _ _ _ _ _ _ _ _ _ _ _ _ _ _ _ _ _ _ _ _ _ _ _ _ _ _ _ _ _ _ _ _ _ _ _ _ _ _ _ _ _ _ _ _ _ _ _ _ _ _ _ _ _ _ _ _ _ _ _ _ _ _ _ _ _ _ _ _ _ _ _ _ _ ?_
  intro f1 w7 HJ0
  obtain ⟨D8, HJ⟩ := hid_one (Lib.hid HJ0)
  clear HJ0 HI6 HOS
  have HSI := Lib.hid HJ.out.1
  have HDN := Lib.hid HJ.out.2.2
  obtain ⟨t, HT⟩ : ∃ t, Hid (t = strOf D8.all) := ⟨_, Lib.hid rfl⟩
  have HST : Hid (∀ w', SimW w w' g h rg rh N D8 → (fun w' => w'.cell? ⟨rg, 0, none⟩ = some (.slice (some ⟨rh, 0, none⟩) N N) ∧ (convert 22 9 (.slice (some ⟨rh, 0, none⟩) N N)).run Tryd.prog w' = .ok (.string t) w') w') := Lib.hid (fun w' H => ⟨H.r.c0, by
    rw [HT.out]
    refine Rd.toStr (w := w') (B := w'.heap.size) (bs := D8.all) (.inr ⟨_, rfl, H.r.blk.lt, fun j u hj => ?_⟩) N N H.r.len
    rw [Addr.add_mid, Nat.zero_add, H.r.blk.cell]
    exact hj⟩)
  have HC1 : Hid (Calls Tryd.prog 26 #[.pointer (some ⟨g, 0, none⟩)] w7.drew fun x w' => ∃ A n c, x = .returned (.slice A n c) ∧ Hid ((convert 22 9 (.slice A n c)).run Tryd.prog w' = .ok (.string t) w' ∧ SimW w w' g h rg rh N D8)) := Lib.hid
    ((image_any g w7.drew (HSI.out.d.stay ⟨rfl, rfl, rfl, rfl⟩)).mono fun x w' ⟨A, n, c, hx, H⟩ => ⟨A, n, c, hx, Lib.hid ⟨by rw [HT.out]; exact H.out.1.str, HSI.out.under ((Below.refl _ _).drew.trans H.out.2)⟩⟩)
  unfold fr0
  clear hq1 hq2 hq3 hq4 hq5
  have hqn : IntKind.i64.wrap (n : Int) = (n : Int) := by rw [IntKind.wrap_i64]; omega
  go_wp2_with fail
  · skip
    refine wp_region_held_drew (S := (fun w' => w'.cell? ⟨rg, 0, none⟩ = some (.slice (some ⟨rh, 0, none⟩) N N) ∧ (convert 22 9 (.slice (some ⟨rh, 0, none⟩) N N)).run Tryd.prog w' = .ok (.string t) w')) (by kernel_rfl) (HST.out _ (HSI.out.stay ⟨rfl, rfl, rfl, rfl⟩)) (fun hHeld => ?_)
    refine wpAnyH_take (i := 0) (oi := ⟨some 197, _, _, _, _, _⟩) (v := .pointer (some ⟨g, 0, none⟩)) rfl (by kernel_rfl) (by kernel_rfl) (by kernel_rfl) (fun _ _ _ h => h) (Or.inl ⟨by kernel_rfl, ?_⟩) (by assumption) ?_
    · (intro w' hSw; (try dsimp only at hSw); go_simp)
    simp only [Act.put, List.setIfInBounds_toArray, List.set_cons_zero, List.set_cons_succ]
    refine wpAnyH_take (i := 3) (oi := ⟨some 200, _, _, _, _, _⟩) (v := .pointer (some ⟨rg, 0, none⟩)) rfl (by kernel_rfl) (by kernel_rfl) (by kernel_rfl) (fun _ _ _ h => h) (Or.inl ⟨by kernel_rfl, ?_⟩) (by assumption) ?_
    · (intro w' hSw; (try dsimp only at hSw); go_simp)
    simp only [Act.put, List.setIfInBounds_toArray, List.set_cons_zero, List.set_cons_succ]
    refine wpAnyH_take (i := 4) (oi := ⟨some 201, _, _, _, _, _⟩) (v := .pointer (some ⟨rg, 0, none⟩)) rfl (by kernel_rfl) (by kernel_rfl) (by kernel_rfl) (fun _ _ _ h => h) (Or.inl ⟨by kernel_rfl, ?_⟩) (by assumption) ?_
    · (intro w' hSw; (try dsimp only at hSw); go_simp)
    simp only [Act.put, List.setIfInBounds_toArray, List.set_cons_zero, List.set_cons_succ]
    refine wpAnyH_take (i := 5) (oi := ⟨some 202, _, _, _, _, _⟩) (v := .pointer (some ⟨rg, 0, none⟩)) rfl (by kernel_rfl) (by kernel_rfl) (by kernel_rfl) (fun _ _ _ h => h) (Or.inl ⟨by kernel_rfl, ?_⟩) (by assumption) ?_
    · (intro w' hSw; (try dsimp only at hSw); go_simp)
    simp only [Act.put, List.setIfInBounds_toArray, List.set_cons_zero, List.set_cons_succ]
    refine wpAnyH_take (i := 6) (oi := ⟨some 203, _, _, _, _, _⟩) (v := .slice (some ⟨rh, 0, none⟩) N N) rfl (by kernel_rfl) (by kernel_rfl) (by kernel_rfl) (fun _ _ _ h => h) (Or.inl ⟨by kernel_rfl, ?_⟩) (by assumption) ?_
    · (intro w' hSw; (try dsimp only at hSw); go_simp)
    simp only [Act.put, List.setIfInBounds_toArray, List.set_cons_zero, List.set_cons_succ]
    refine wpAnyH_take (i := 7) (oi := ⟨some 204, _, _, _, _, _⟩) (v := .string t) rfl (by kernel_rfl) (by kernel_rfl) (by kernel_rfl) (fun _ _ _ h => h) (Or.inl ⟨by kernel_rfl, ?_⟩) (by assumption) ?_
    · (intro w' hSw; (try dsimp only at hSw); go_simp)
    simp only [Act.put, List.setIfInBounds_toArray, List.set_cons_zero, List.set_cons_succ]
    refine wpAnyH_ready (rs := [1]) (by kernel_rfl) (by simp) ?_
    refine AllReadyH.cons rfl (fun K hK => ?_) AllReadyH.nil
    go_simp
    with_reducible refine HC1.out.mono ?_
    rintro e w8 ⟨A8, n8, c8, rfl, H8⟩
    refine hK.out _ _ (HST.out _ H8.out.2) (fun hHeld => ?_)
    clear hK K
    (try simp only [Act.put, List.setIfInBounds_toArray, List.set_cons_zero, List.set_cons_succ])
    have hcv8 := H8.out.1
    refine wpAnyH_ready (rs := [2]) (by kernel_rfl) (by simp) ?_
    refine AllReadyH.cons rfl (fun K hK => ?_) AllReadyH.nil
    go_simp
    clear hcv8
    refine hK.out _ _ (HST.out _ H8.out.2) (fun hHeld => ?_)
    clear hK K
    (try simp only [Act.put, List.setIfInBounds_toArray, List.set_cons_zero, List.set_cons_succ])
    refine wpAnyH_take (i := 8) (oi := ⟨some 205, _, _, _, _, _⟩) (v := .bool true) rfl (by kernel_rfl) (by kernel_rfl) (by kernel_rfl) (fun _ _ _ h => h) (Or.inl ⟨by kernel_rfl, ?_⟩) (by assumption) ?_
    · (intro w' hSw; (try dsimp only at hSw); go_simp)
    simp only [Act.put, List.setIfInBounds_toArray, List.set_cons_zero, List.set_cons_succ]
    refine wpAnyH_take (i := 9) (oi := ⟨some 206, _, _, _, _, _⟩) (v := .bool true) rfl (by kernel_rfl) (by kernel_rfl) (by kernel_rfl) (fun _ _ _ h => h) (Or.inl ⟨by kernel_rfl, ?_⟩) (by assumption) ?_
    · (intro w' hSw; (try dsimp only at hSw); go_simp)
    simp only [Act.put, List.setIfInBounds_toArray, List.set_cons_zero, List.set_cons_succ]
    refine wpAnyH_take (i := 10) (oi := ⟨some 207, _, _, _, _, _⟩) (v := .pointer (some ⟨g, 0, none⟩)) rfl (by kernel_rfl) (by kernel_rfl) (by kernel_rfl) (fun _ _ _ h => h) (Or.inl ⟨by kernel_rfl, ?_⟩) (by assumption) ?_
    · (intro w' hSw; (try dsimp only at hSw); go_simp)
    simp only [Act.put, List.setIfInBounds_toArray, List.set_cons_zero, List.set_cons_succ]
    refine wpAnyH_take (i := 12) (oi := ⟨some 209, _, _, _, _, _⟩) (v := .pointer (some ⟨rg, 0, none⟩)) rfl (by kernel_rfl) (by kernel_rfl) (by kernel_rfl) (fun _ _ _ h => h) (Or.inl ⟨by kernel_rfl, ?_⟩) (by assumption) ?_
    · (intro w' hSw; (try dsimp only at hSw); go_simp)
    simp only [Act.put, List.setIfInBounds_toArray, List.set_cons_zero, List.set_cons_succ]
    refine wpAnyH_take (i := 13) (oi := ⟨some 210, _, _, _, _, _⟩) (v := .pointer (some ⟨rg, 0, none⟩)) rfl (by kernel_rfl) (by kernel_rfl) (by kernel_rfl) (fun _ _ _ h => h) (Or.inl ⟨by kernel_rfl, ?_⟩) (by assumption) ?_
    · (intro w' hSw; (try dsimp only at hSw); go_simp)
    simp only [Act.put, List.setIfInBounds_toArray, List.set_cons_zero, List.set_cons_succ]
    refine wpAnyH_take (i := 14) (oi := ⟨some 211, _, _, _, _, _⟩) (v := .pointer (some ⟨rg, 0, none⟩)) rfl (by kernel_rfl) (by kernel_rfl) (by kernel_rfl) (fun _ _ _ h => h) (Or.inl ⟨by kernel_rfl, ?_⟩) (by assumption) ?_
    · (intro w' hSw; (try dsimp only at hSw); go_simp)
    simp only [Act.put, List.setIfInBounds_toArray, List.set_cons_zero, List.set_cons_succ]
    refine wpAnyH_take (i := 15) (oi := ⟨some 212, _, _, _, _, _⟩) (v := .slice (some ⟨rh, 0, none⟩) N N) rfl (by kernel_rfl) (by kernel_rfl) (by kernel_rfl) (fun _ _ _ h => h) (Or.inl ⟨by kernel_rfl, ?_⟩) (by assumption) ?_
    · (intro w' hSw; (try dsimp only at hSw); go_simp)
    simp only [Act.put, List.setIfInBounds_toArray, List.set_cons_zero, List.set_cons_succ]
    refine wpAnyH_take (i := 16) (oi := ⟨some 213, _, _, _, _, _⟩) (v := .int .i64 (N : Int)) rfl (by kernel_rfl) (by kernel_rfl) (by kernel_rfl) (fun _ _ _ h => h) (Or.inl ⟨by kernel_rfl, ?_⟩) (by assumption) ?_
    · (intro w' hSw; (try dsimp only at hSw); go_simp)
    simp only [Act.put, List.setIfInBounds_toArray, List.set_cons_zero, List.set_cons_succ]
    refine wpAnyH_take (i := 17) (oi := ⟨some 214, _, _, _, _, _⟩) (v := .int .i64 (n : Int)) rfl (by kernel_rfl) (by kernel_rfl) (by kernel_rfl) (fun _ _ _ h => h) (Or.inl ⟨by kernel_rfl, ?_⟩) (by assumption) ?_
    · (intro w' hSw; (try dsimp only at hSw); go_simp)
    simp only [Act.put, List.setIfInBounds_toArray, List.set_cons_zero, List.set_cons_succ]
    refine wpAnyH_ready (rs := [11]) (by kernel_rfl) (by simp) ?_
    refine AllReadyH.cons rfl (fun K hK => ?_) AllReadyH.nil
    go_simp
    with_reducible refine (blocks_n g h n D8 w8 H8.out.2.d HDN.out).mono ?_
    rintro e w9 ⟨rfl, rfl⟩
    refine hK.out _ _ (HST.out _ H8.out.2) (fun hHeld => ?_)
    clear hK K
    (try simp only [Act.put, List.setIfInBounds_toArray, List.set_cons_zero, List.set_cons_succ])
    refine wpAnyH_take (i := 18) (oi := ⟨some 215, _, _, _, _, _⟩) (v := .bool true) rfl (by kernel_rfl) (by kernel_rfl) (by kernel_rfl) (fun _ _ _ h => h) (Or.inl ⟨by kernel_rfl, ?_⟩) (by assumption) ?_
    · (intro w' hSw; (try dsimp only at hSw); go_simp)
    simp only [Act.put, List.setIfInBounds_toArray, List.set_cons_zero, List.set_cons_succ]
    refine wpAnyH_take (i := 19) (oi := ⟨some 216, _, _, _, _, _⟩) (v := .bool true) rfl (by kernel_rfl) (by kernel_rfl) (by kernel_rfl) (fun _ _ _ h => h) (Or.inl ⟨by kernel_rfl, ?_⟩) (by assumption) ?_
    · (intro w' hSw; (try dsimp only at hSw); go_simp)
    simp only [Act.put, List.setIfInBounds_toArray, List.set_cons_zero, List.set_cons_succ]
    refine wpAnyH_take (i := 20) (oi := ⟨some 6, _, _, _, _, _⟩) (v := .bool true) rfl (by kernel_rfl) (by kernel_rfl) (by kernel_rfl) (fun _ _ _ h => h) (Or.inl ⟨by kernel_rfl, ?_⟩) (by assumption) ?_
    · (intro w' hSw; (try dsimp only at hSw); go_simp)
    simp only [Act.put, List.setIfInBounds_toArray, List.set_cons_zero, List.set_cons_succ]
    refine wpAnyH_done (by kernel_rfl) ?_ _
    clear hqn
    go_wp2_with fail
    go_ret
    exact ⟨rfl, H8.out.2.below⟩
end Go.Proofs.YtadhgdjgpanddaaDoor
