/- The law HashKeyed: Keyed of every key and all parts is the document's; the key that is handed in stays. -/
import Derived.Test.YthfpkefieemiaaaDoorCops
import Derived.Test.YthfpkefieemiaaaDoorRkey
import Derived.Deep.RegionWith
namespace Go.Proofs.YthfpkefieemiaaaDoor
open Go.RowKit

set_option maxRecDepth 100000 in
set_option maxHeartbeats 2000000 in
theorem keys_any (n c m d : Nat) (A B : Option Addr) (key : List UInt8) (ps : List Part) (w : World) (hK : Ktab w) (hn : key.length = n) (hc : n ≤ c) (hcm : c ≤ 9223372036854775807) (hr : Rd w w.heap.size A (key.map bv))
    (hm : ps.length = m) (hmax : m ≤ 9223372036854775807) (hp : Parts w w.heap.size B ps) :
    Calls Tryd.prog 4 #[.slice A n c, .slice B m d] w fun e w' => e = .returned (.bool true) ∧ Below w.heap.size w w' := by
  have h0 := hK.1
  have HK := Lib.hid hK
  have HN := Lib.hid hn
  have HM := Lib.hid hm
  have HR := Lib.hid hr
  have HP := Lib.hid hp
  clear hK hn hm hr hp
  go_enter Tryd.func4, Tryd.ntmps4
  go_wp2_with fail
  with_reducible refine (alive_any w HK.out).mono ?_
  rintro e w1 ⟨rfl, HB1⟩
  have hsz1 : w.heap.size ≤ w1.heap.size := HB1.out.size
  go_wp2_with fail
  with_reducible refine (few_any m d B ps w1 HM.out hmax ((HP.out.below HB1.out).more hsz1)).mono ?_
  rintro e _ ⟨rfl, rfl⟩
  cases hfew : countP ps 0 with
  | false =>
    go_wp2_with fail
    go_ret
    exact ⟨rfl, HB1.out⟩
  | true =>
    have HSM := Lib.hid (countP_small ps 0 hfew)
    have HFL : Hid ((flat ps).length ≤ 20000) := Lib.hid (by have := HSM.out; omega)
    clear hfew HSM
    by_cases hbig : 20000 < n
    · go_wp2_with fail
      go_ret
      exact ⟨rfl, HB1.out⟩
    have hn2 : n ≤ 20000 := by omega
    go_wp2_with fail
    with_reducible refine (bytes_own n c A key w1 HN.out (by omega) ((HR.out.below HB1.out).more hsz1)).mono ?_
    rintro e w2 ⟨g2, c2, rfl, HV2⟩
    have HB2 := Lib.hid (HB1.out.trans (HV2.out.2.2.2.mono hsz1))
    have hsz2 : w.heap.size ≤ w2.heap.size := HB2.out.size
    have HX : Shut (n + 6 ≤ c2 ∧ c2 ≤ 9223372036854775807 ∧ Rd w2 w2.heap.size (some ⟨g2, 0, none⟩) ((key ++ marks).map bv)) := ⟨HV2.out.1, HV2.out.2.1, by
      obtain ⟨A', c', e', _, _, _, hr', _⟩ := own_slice HV2.out.2.2.1
      injection e' with e1 _ _
      rw [e1]
      exact hr'⟩
    have HX2 : Hid (Rd w2 w2.heap.size (some ⟨g2, 0, none⟩) (key.map bv)) := Lib.hid (by
      have h5 := HX.out.2.2.take n
      rwa [← List.map_take, List.take_append_of_le_length (by rw [HN.out]; exact Nat.le_refl n), List.take_of_length_le (by rw [HN.out]; exact Nat.le_refl n)] at h5)
    have hc6 : n + 6 ≤ c2 := HX.out.1
    have hc7 : c2 ≤ 9223372036854775807 := HX.out.2.1
    clear HV2
    go_wp2_with fail
    with_reducible refine (keyed_any n c2 m d (some ⟨g2, 0, none⟩) B key ps w2 (HK.out.below h0 HB2.out) HN.out (by omega) hc7 (by omega) HX2.out HM.out hmax (by have := HFL.out; omega) ((HP.out.below HB2.out).more hsz2)).mono ?_
    rintro e w3 ⟨v3, rfl, HV3⟩
    obtain ⟨Z, HZ⟩ : ∃ Z, Shut (Z = keyed key (flat ps)) := ⟨_, ⟨rfl⟩⟩
    obtain ⟨D, HD⟩ : ∃ D, Shut (D = Z.map bv) := ⟨_, ⟨rfl⟩⟩
    have HZL : Hid (Z.length = 32) := Lib.hid (by rw [HZ.out]; exact digest_length _)
    have HLD : Shut ((Tryd.prog.info? 27).map (·.size) = some D.length ∧ (List.replicate 32 (Value.int .u8 0)).length = D.length ∧ D.length = 32 ∧ ∀ v ∈ D, v.oneCell' = true) := ⟨by
      have h1 : D.length = 32 := by rw [HD.out, List.length_map, HZL.out]
      exact ⟨by rw [h1]; exact info_size info27, by rw [h1]; exact List.length_replicate, h1, by rw [HD.out]; exact bytes_one _⟩⟩
    have HVD : Hid (v3 = .agg D.toArray) := Lib.hid (by rw [HD.out, HZ.out]; exact HV3.out.1)
    have HB23 := Lib.hid HV3.out.2
    have hsz3 : w2.heap.size ≤ w3.heap.size := HB23.out.size
    clear HV3
    go_wp2_with (first
      | (refine wl_alloc rfl 27 rfl _ _ info27 ?_
         intro w4 HA4 HB4 HZ4)
      | (refine wl_store rfl 27 (.tmp 6) (.tmp 21) rfl w3.heap.size _ D rfl HVD.out rfl 27 _ HA4.out HLD.out.1 HLD.out.2.1 HLD.out.2.2.2 ?_
         intro w5 HR5 HS5 HZ5))
    have hz4 : w3.heap.size < w4.heap.size := by rw [HZ4.out]; omega
    have hz5 : w4.heap.size ≤ w5.heap.size := by rw [HZ5.out]; exact Nat.le_refl _
    have hb35 : Below w3.heap.size w3 w5 := HB4.out.trans (HS5.out.below (Nat.le_refl _) (by omega))
    have HB25 := Lib.hid (HB23.out.trans (hb35.mono hsz3))
    have hsz25 : w2.heap.size ≤ w5.heap.size := HB25.out.size
    have HB5 := Lib.hid (HB2.out.trans (HB25.out.mono hsz2))
    have hsz5 : w.heap.size ≤ w5.heap.size := HB5.out.size
    generalize hgd : w3.heap.size = gd at *
    clear HA4 HB4 HZ4 HS5 HZ5 hb35 hgd hz4 hz5 HB23 hsz3
    obtain ⟨t, HT⟩ : ∃ t, Shut (ByteArray.mk Z.toArray = t) := ⟨_, ⟨rfl⟩⟩
    have HST : Hid (∀ w', Below w5.heap.size w5 w' → (convert 25 9 (.slice (some ⟨gd, 0, none⟩) 32 32)).run Tryd.prog w' = .ok (.string t) w') := Lib.hid (fun w' hb => by
      rw [← HT.out]
      refine Rd.toStr (w := w') (B := w'.heap.size) ?_ 32 32 HZL.out
      rw [← HD.out]
      exact ((HR5.out.rd _ HR5.out.lt).below hb).more hb.size)
    have hbd : Below w5.heap.size w5 w5.drew := (Below.refl _ _).drew
    have HC1 : Hid (Calls Tryd.prog 15 #[] w5.drew fun e w' => ∃ g, e = .returned (.pointer (some ⟨g, 0, none⟩)) ∧ Hid (Tab w' w'.heap.size g ∧ Below w5.heap.size w5 w')) := Lib.hid
      ((new_any w5.drew).mono fun e w' ⟨g, he, hv⟩ => ⟨g, he, Lib.hid ⟨hv.out.1, hbd.trans hv.out.2⟩⟩)
    have HC2 : Hid (∀ w6, Below w5.heap.size w5 w6 → Calls Tryd.prog 17 #[.slice B m d] w6 fun e w' => ∃ A' c' n', e = .returned (.slice A' n' c') ∧ Hid ((flat ps).length = n' ∧ Rd w' w'.heap.size A' ((flat ps).map bv) ∧ Below w6.heap.size w6 w')) := Lib.hid (fun w6 hb =>
      ((join_any m d B ps w6 HM.out hmax HFL.out (((HP.out.below HB5.out).below (hb.mono hsz5)).more (Nat.le_trans hsz5 hb.size))).mono fun e w' ⟨v, he, hv⟩ => by
        obtain ⟨A', c', rfl, _, _, _, hr', _⟩ := own_slice hv.out.1
        exact ⟨A', c', _, he, Lib.hid ⟨rfl, hr', hv.out.2⟩⟩))
    have HC3 : Hid (∀ (g7 n7 c7 : Nat) (A7 : Option Addr) w7, Below w5.heap.size w5 w7 → Tab w7 w7.heap.size g7 → (flat ps).length = n7 → Rd w7 w7.heap.size A7 ((flat ps).map bv) →
        Calls Tryd.prog 20 #[.pointer (some ⟨g7, 0, none⟩), .slice A n c, .slice A7 n7 c7] w7 fun e w' => ∃ A' c', e = .returned (.slice A' 32 c') ∧ Hid ((convert 25 9 (.slice A' 32 c')).run Tryd.prog w' = .ok (.string t) w' ∧ Below w5.heap.size w5 w')) := Lib.hid (fun g7 n7 c7 A7 w7 hb hT h7 hr7 =>
      ((rkeyed_any g7 n c n7 c7 A A7 key (flat ps) w7 hT HN.out hn2 (((HR.out.below HB5.out).below (hb.mono hsz5)).more (Nat.le_trans hsz5 hb.size)) h7 (by rw [← h7]; exact HFL.out) hr7).mono fun e w' ⟨v, he, hv⟩ => by
        obtain ⟨A', c', rfl, _, _, _, hr', _⟩ := own_slice hv.out.1
        rw [← HZ.out] at hr'
        exact ⟨A', c', he, Lib.hid ⟨by rw [← HT.out]; exact Rd.toStr hr' 32 c' HZL.out, hb.trans (hv.out.2.mono hb.size)⟩⟩))
    have hcm2 : c2 ≤ maxLen := hc7
    have HC4 : Hid (∀ w9, Below w5.heap.size w5 w9 → Calls Tryd.prog 18 #[.slice (some ⟨g2, 0, none⟩) n c2, .slice A n c] w9 fun e w' => e = .returned (.bool true) ∧ Hid (Below w5.heap.size w5 w')) := Lib.hid (fun w9 hb =>
      ((kept_any n c2 c (some ⟨g2, 0, none⟩) A key w9 HN.out (by omega) hc6 hcm2 (((HX.out.2.2.below HB25.out).more hsz25 |>.below hb).more hb.size) (((HR.out.below HB5.out).below (hb.mono hsz5)).more (Nat.le_trans hsz5 hb.size))).mono fun e w' ⟨he, hv⟩ => ⟨he, Lib.hid (hb.trans (hv.mono hb.size))⟩))
    have HBD := Lib.hid hbd
    clear hbd
    have hsl := fun w' : World => run_all w' 27 32 under27 gd 0
    go_wp2_with fail
    refine wp_region_held_drew (S := fun w' => (convert 25 9 (.slice (some ⟨gd, 0, none⟩) 32 32)).run Tryd.prog w' = .ok (.string t) w') (by kernel_rfl) (HST.out _ HBD.out) (fun hHeld => ?_)
    refine wpAnyH_take (i := 0) (v := .slice (some ⟨gd, 0, none⟩) 32 32) rfl (by kernel_rfl) (by kernel_rfl) (by kernel_rfl) (fun _ _ _ h => h) (Or.inl ⟨by kernel_rfl, ?_⟩) (by assumption) ?_
    · (intro w' hSw; (try dsimp only at hSw); go_simp)
    simp only [Act.put, List.setIfInBounds_toArray, List.set_cons_zero, List.set_cons_succ]
    refine wpAnyH_take (i := 1) (v := .string t) rfl (by kernel_rfl) (by kernel_rfl) (by kernel_rfl) (fun _ _ _ h => h) (Or.inl ⟨by kernel_rfl, ?_⟩) (by assumption) ?_
    · (intro w' hSw; (try dsimp only at hSw); go_simp)
    simp only [Act.put, List.setIfInBounds_toArray, List.set_cons_zero, List.set_cons_succ]
    refine wpAnyH_take (i := 3) (v := .slice A n c) rfl (by kernel_rfl) (by kernel_rfl) (by kernel_rfl) (fun _ _ _ h => h) (Or.inl ⟨by kernel_rfl, ?_⟩) (by assumption) ?_
    · (intro w' hSw; (try dsimp only at hSw); go_simp)
    simp only [Act.put, List.setIfInBounds_toArray, List.set_cons_zero, List.set_cons_succ]
    refine wpAnyH_take (i := 4) (v := .slice B m d) rfl (by kernel_rfl) (by kernel_rfl) (by kernel_rfl) (fun _ _ _ h => h) (Or.inl ⟨by kernel_rfl, ?_⟩) (by assumption) ?_
    · (intro w' hSw; (try dsimp only at hSw); go_simp)
    simp only [Act.put, List.setIfInBounds_toArray, List.set_cons_zero, List.set_cons_succ]
    refine wpAnyH_ready (rs := [2]) (by kernel_rfl) (by simp) ?_
    refine AllReadyH.cons rfl (fun K hK => ?_) AllReadyH.nil
    go_simp
    with_reducible refine HC1.out.mono ?_
    rintro e w6 ⟨g6, rfl, HV6⟩
    refine hK.out _ _ (HST.out _ HV6.out.2) (fun hHeld => ?_)
    clear hK K
    (try simp only [Act.put, List.setIfInBounds_toArray, List.set_cons_zero, List.set_cons_succ])
    refine wpAnyH_ready (rs := [5]) (by kernel_rfl) (by simp) ?_
    refine AllReadyH.cons rfl (fun K hK => ?_) AllReadyH.nil
    go_simp
    with_reducible refine (HC2.out w6 HV6.out.2).mono ?_
    rintro e w7 ⟨A7, c7, n7, rfl, HV7⟩
    have HB7 := Lib.hid (HV6.out.2.trans (HV7.out.2.2.mono HV6.out.2.size))
    have HT7 := Lib.hid ((HV6.out.1.below HV7.out.2.2).more HV7.out.2.2.size)
    refine hK.out _ _ (HST.out _ HB7.out) (fun hHeld => ?_)
    clear hK K
    (try simp only [Act.put, List.setIfInBounds_toArray, List.set_cons_zero, List.set_cons_succ])
    refine wpAnyH_ready (rs := [6]) (by kernel_rfl) (by simp) ?_
    refine AllReadyH.cons rfl (fun K hK => ?_) AllReadyH.nil
    go_simp
    with_reducible refine (HC3.out g6 n7 c7 A7 w7 HB7.out HT7.out HV7.out.1 HV7.out.2.1).mono ?_
    rintro e w8 ⟨A8, c8, rfl, HV8⟩
    refine hK.out _ _ (HST.out _ HV8.out.2) (fun hHeld => ?_)
    clear hK K
    (try simp only [Act.put, List.setIfInBounds_toArray, List.set_cons_zero, List.set_cons_succ])
    have hcv := HV8.out.1
    refine wpAnyH_ready (rs := [7]) (by kernel_rfl) (by simp) ?_
    refine AllReadyH.cons rfl (fun K hK => ?_) AllReadyH.nil
    go_simp
    clear hcv
    refine hK.out _ _ (HST.out _ HV8.out.2) (fun hHeld => ?_)
    clear hK K
    (try simp only [Act.put, List.setIfInBounds_toArray, List.set_cons_zero, List.set_cons_succ])
    refine wpAnyH_take (i := 8) (v := .bool true) rfl (by kernel_rfl) (by kernel_rfl) (by kernel_rfl) (fun _ _ _ h => h) (Or.inl ⟨by kernel_rfl, ?_⟩) (by assumption) ?_
    · (intro w' hSw; (try dsimp only at hSw); go_simp)
    simp only [Act.put, List.setIfInBounds_toArray, List.set_cons_zero, List.set_cons_succ]
    refine wpAnyH_take (i := 9) (v := .bool true) rfl (by kernel_rfl) (by kernel_rfl) (by kernel_rfl) (fun _ _ _ h => h) (Or.inl ⟨by kernel_rfl, ?_⟩) (by assumption) ?_
    · (intro w' hSw; (try dsimp only at hSw); go_simp)
    simp only [Act.put, List.setIfInBounds_toArray, List.set_cons_zero, List.set_cons_succ]
    refine wpAnyH_take (i := 10) (v := .slice (some ⟨g2, 0, none⟩) n c2) rfl (by kernel_rfl) (by kernel_rfl) (by kernel_rfl) (fun _ _ _ h => h) (Or.inl ⟨by kernel_rfl, ?_⟩) (by assumption) ?_
    · (intro w' hSw; (try dsimp only at hSw); go_simp)
    simp only [Act.put, List.setIfInBounds_toArray, List.set_cons_zero, List.set_cons_succ]
    refine wpAnyH_take (i := 11) (v := .slice A n c) rfl (by kernel_rfl) (by kernel_rfl) (by kernel_rfl) (fun _ _ _ h => h) (Or.inl ⟨by kernel_rfl, ?_⟩) (by assumption) ?_
    · (intro w' hSw; (try dsimp only at hSw); go_simp)
    simp only [Act.put, List.setIfInBounds_toArray, List.set_cons_zero, List.set_cons_succ]
    refine wpAnyH_ready (rs := [12]) (by kernel_rfl) (by simp) ?_
    refine AllReadyH.cons rfl (fun K hK => ?_) AllReadyH.nil
    go_simp
    with_reducible refine (HC4.out w8 HV8.out.2).mono ?_
    rintro e w9 ⟨rfl, HV9⟩
    refine hK.out _ _ (HST.out _ HV9.out) (fun hHeld => ?_)
    clear hK K
    (try simp only [Act.put, List.setIfInBounds_toArray, List.set_cons_zero, List.set_cons_succ])
    refine wpAnyH_take (i := 13) (v := .bool true) rfl (by kernel_rfl) (by kernel_rfl) (by kernel_rfl) (fun _ _ _ h => h) (Or.inl ⟨by kernel_rfl, ?_⟩) (by assumption) ?_
    · (intro w' hSw; (try dsimp only at hSw); go_simp)
    simp only [Act.put, List.setIfInBounds_toArray, List.set_cons_zero, List.set_cons_succ]
    refine wpAnyH_take (i := 14) (v := .bool true) rfl (by kernel_rfl) (by kernel_rfl) (by kernel_rfl) (fun _ _ _ h => h) (Or.inl ⟨by kernel_rfl, ?_⟩) (by assumption) ?_
    · (intro w' hSw; (try dsimp only at hSw); go_simp)
    simp only [Act.put, List.setIfInBounds_toArray, List.set_cons_zero, List.set_cons_succ]
    refine wpAnyH_done (by kernel_rfl) ?_ _
    simp only [List.getElem_toArray, List.getElem_cons_succ, List.getElem_cons_zero, Act.put, List.setIfInBounds_toArray, List.set_cons_zero, List.set_cons_succ]
    have HBF := Lib.hid (HB5.out.trans (HV9.out.mono hsz5))
    clear hsl
    go_wp2_with fail
    go_ret
    exact ⟨rfl, HBF.out⟩
end Go.Proofs.YthfpkefieemiaaaDoor
