/- The law LabelChecks: Check, Name and Labels of every text. -/
import Derived.Test.YtooplfpffmnkfaaDoorAlive
namespace Go.Proofs.YtooplfpffmnkfaaDoor
open Go.RowKit

/-- An error against itself, by '!='. -/
theorem err_neq (a : Addr) (W : World) : (binOp .neq 24 (.iface 57 (.pointer (some a))) (.iface 57 (.pointer (some a)))).run Tryd.prog W = .ok (.bool false) W := by
  obtain ⟨i, hi, hcmp⟩ := Option.map_eq_some_iff.1 compErr
  obtain ⟨j, hj, _⟩ := Option.map_eq_some_iff.1 sizeErr
  simp only [binOp]
  simp [Op.equal, Op.maxDepth, run_equalIn_iface_ptr_same W 9998 a Tryd.underlying24 Tryd.underlying57 hi hcmp hj]
theorem name_pat {l : List UInt8} (h : patB l = false) : nameB l = false := by
  rw [Bool.eq_false_iff]
  intro hn
  rw [pat_name hn] at h
  cases h

set_option maxHeartbeats 4000000 in
theorem lawChecks_any (s : ByteArray) (a : Addr) (m : Int) (w : World) (hE : Env w a m) (hs : s.size ≤ maxLen) : Calls Tryd.prog 3 #[.string s] w fun e w' => e = .returned (.bool true) ∧ Below w.heap.size w w' := by
  unfold maxLen at hs
  have h2 := hE.lt
  have HA := Lib.hid (alive_any a m w hE)
  have HE := Lib.hid hE
  have hsp := size_bytes s
  have hes := fun W : World => err_same a W
  have hnes := fun W : World => err_neq a W
  clear hE
  by_cases hl : 2000 < s.size
  · have HP : Hid (patB s.data.toList = false) := Lib.hid (by rw [Bool.eq_false_iff]; intro h; have := pat_len h; omega)
    have HN : Hid (nameB s.data.toList = false) := Lib.hid (name_pat HP.out)
    clear hsp
    go_enter Tryd.func3, Tryd.ntmps3
    go_wp2_with fail
    with_reducible refine HA.out.mono ?_
    rintro e w1 ⟨rfl, HB1⟩
    have h21 : 2 ≤ w1.heap.size := (HE.out.below h2 HB1.out).lt
    have HE1 := Lib.hid (HE.out.below h2 HB1.out)
    have hQ1 := below_call (w := w1) (f := 10) (args := #[.string s]) (v := .iface 57 (.pointer (some a))) (fun W hb => by
      have h := check_any s a m W (HE1.out.below h21 hb)
      rwa [HP.out, errV_false] at h)
    have hQ2 := below_call (w := w1) (f := 11) (args := #[.string s]) (v := .iface 57 (.pointer (some a))) (fun W hb => by
      have h := name_any s a m W (HE1.out.below h21 hb)
      rwa [HN.out, errV_false] at h)
    have k0 := cell_regrown HE1.out.c0
    go_wp2_with fail
    refine wp_region_quiet_below mixed (by kernel_rfl) ?_
    repeat (quiet_step (first | exact hQ1 _ _ | exact hQ2 _ _))
    refine wpQuiet_nil ?_
    intro _ hw'
    obtain ⟨⟨dq, osq⟩, hw''⟩ := hw'
    subst hw''
    clear hQ1 hQ2 k0
    go_wp2_with fail
    go_ret
    exact ⟨rfl, HB1.out.trans ((below_regrown w1 dq osq).mono HB1.out.size)⟩
  have HPA := fun W => Lib.hid (pattern_any s W (by omega))
  have HRN := fun W => Lib.hid (refName_any s W (by omega))
  have HRS := fun W => Lib.hid (refSplit_any s W (by omega))
  clear hsp
  cases hp : patB s.data.toList with
  | false =>
    have hn := name_pat hp
    have HC := fun (W : World) (hb : Env W a m) => Lib.hid (check_any s a m W hb)
    have HN := fun (W : World) (hb : Env W a m) => Lib.hid (name_any s a m W hb)
    have HLB := fun (W : World) (hb : Env W a m) => Lib.hid (labels_no s a m W hb hp)
    rw [hp, errV_false] at HC
    rw [hn, errV_false] at HN
    rw [hn] at HRN
    have HPP := HPA
    rw [patR_ok, hp] at HPP
    clear hp hn HPA
    go_enter Tryd.func3, Tryd.ntmps3
    go_wp2_with fail
    with_reducible refine HA.out.mono ?_
    rintro e w1 ⟨rfl, HB1⟩
    go_wp2_with fail
    with_reducible refine (HPP _).out.mono ?_
    rintro e w2 ⟨t, rfl, HV2⟩
    have HB2 := Lib.hid (HB1.out.trans (HV2.out.2.2.mono HB1.out.size))
    have HE2 := Lib.hid (HE.out.below h2 HB2.out)
    clear HV2
    go_wp2_with fail
    with_reducible refine (HC _ HE2.out).out.mono ?_
    rintro e w3 ⟨rfl, HV3⟩
    have HB3 := Lib.hid (HB2.out.trans (HV3.out.mono HB2.out.size))
    have HE3 := Lib.hid (HE.out.below h2 HB3.out)
    clear HV3
    go_wp2_with fail
    with_reducible refine (HN _ HE3.out).out.mono ?_
    rintro e w4 ⟨rfl, HV4⟩
    have HB4 := Lib.hid (HB3.out.trans (HV4.out.mono HB3.out.size))
    have HE4 := Lib.hid (HE.out.below h2 HB4.out)
    clear HV4
    go_wp2_with fail
    with_reducible refine (HLB _ HE4.out).out.mono ?_
    rintro e w5 ⟨rfl, HV5⟩
    have HB5 := Lib.hid (HB4.out.trans (HV5.out.mono HB4.out.size))
    clear HV5
    have HE5 := Lib.hid (HE.out.below h2 HB5.out)
    clear HC HN HLB HPP
    have hQ1 := below_call (w := w5) (fun W _ => (HRN W).out)
    have k0 := cell_regrown HE5.out.c0
    go_wp2_with fail
    refine wp_region_quiet_below mixed (by kernel_rfl) ?_
    repeat (quiet_step (exact hQ1 _ _))
    refine wpQuiet_nil ?_
    intro _ hw'
    obtain ⟨⟨dq, osq⟩, hw''⟩ := hw'
    obtain ⟨w6, HW6⟩ : ∃ w6, Shut (w6 = Go.Sort.grow (redrawn w5 dq) osq) := ⟨_, ⟨rfl⟩⟩
    subst hw''
    have HV6 : Hid (Below w5.heap.size w5 w6) := Lib.hid (by rw [HW6.out]; exact below_regrown w5 dq osq)
    rw [← HW6.out]
    clear hQ1 k0 HRN HW6
    have HB6 := Lib.hid (HB5.out.trans (HV6.out.mono HB5.out.size))
    go_wp2_with fail
    go_ret
    exact ⟨rfl, HB6.out⟩
  | true =>
    cases hn : nameB s.data.toList with
    | false =>
      have HC := fun (W : World) (hb : Env W a m) => Lib.hid (check_any s a m W hb)
      have HN := fun (W : World) (hb : Env W a m) => Lib.hid (name_any s a m W hb)
      have HLB := fun (W : World) (hb : Env W a m) => Lib.hid (labels_yes s a m W hb hp)
      rw [hp, errV_true] at HC
      rw [hn, errV_false] at HN
      rw [hn] at HRN
      have HPP := HPA
      rw [patR_ok, hp] at HPP
      clear hp hn HPA
      go_enter Tryd.func3, Tryd.ntmps3
      go_wp2_with fail
      with_reducible refine HA.out.mono ?_
      rintro e w1 ⟨rfl, HB1⟩
      go_wp2_with fail
      with_reducible refine (HPP _).out.mono ?_
      rintro e w2 ⟨t, rfl, HV2⟩
      have HB2 := Lib.hid (HB1.out.trans (HV2.out.2.2.mono HB1.out.size))
      have HE2 := Lib.hid (HE.out.below h2 HB2.out)
      clear HV2
      go_wp2_with fail
      with_reducible refine (HC _ HE2.out).out.mono ?_
      rintro e w3 ⟨rfl, HV3⟩
      have HB3 := Lib.hid (HB2.out.trans (HV3.out.mono HB2.out.size))
      have HE3 := Lib.hid (HE.out.below h2 HB3.out)
      clear HV3
      go_wp2_with fail
      with_reducible refine (HN _ HE3.out).out.mono ?_
      rintro e w4 ⟨rfl, HV4⟩
      have HB4 := Lib.hid (HB3.out.trans (HV4.out.mono HB3.out.size))
      have HE4 := Lib.hid (HE.out.below h2 HB4.out)
      clear HV4
      go_wp2_with fail
      with_reducible refine (HLB _ HE4.out).out.mono ?_
      rintro e w5 ⟨A, c, ss, rfl, HV5⟩
      have HB5 := Lib.hid (HB4.out.trans (HV5.out.2.2.2.2.mono HB4.out.size))
      have HR5 := Lib.hid HV5.out.2.2.2.1
      have HS5 := Lib.hid HV5.out.1
      have hc5 : ss.length ≤ c := HV5.out.2.1
      have hcm5 : c ≤ 9223372036854775807 := HV5.out.2.2.1
      clear HV5
      have HE5 := Lib.hid (HE.out.below h2 HB5.out)
      clear HC HN HLB HPP
      have hQ1 := below_call (w := w5) (fun W _ => (HRN W).out)
      have k0 := cell_regrown HE5.out.c0
      go_wp2_with fail
      refine wp_region_quiet_below mixed (by kernel_rfl) ?_
      repeat (quiet_step (exact hQ1 _ _))
      refine wpQuiet_nil ?_
      intro _ hw'
      obtain ⟨⟨dq, osq⟩, hw''⟩ := hw'
      obtain ⟨w6, HW6⟩ : ∃ w6, Shut (w6 = Go.Sort.grow (redrawn w5 dq) osq) := ⟨_, ⟨rfl⟩⟩
      subst hw''
      have HV6 : Hid (Below w5.heap.size w5 w6) := Lib.hid (by rw [HW6.out]; exact below_regrown w5 dq osq)
      rw [← HW6.out]
      clear hQ1 k0 HRN HW6
      have HB6 := Lib.hid (HB5.out.trans (HV6.out.mono HB5.out.size))
      go_wp2_with fail
      with_reducible refine (HRS _).out.mono ?_
      rintro e w7 ⟨A7, c7, ts, rfl, HV7⟩
      have HB7 := Lib.hid (HB6.out.trans (HV7.out.2.2.2.2.mono HB6.out.size))
      have HRA : Hid (Rd w7 w7.heap.size A (sv ss)) := Lib.hid ((((HR5.out.below HV6.out).more HV6.out.size).below HV7.out.2.2.2.2).more HV7.out.2.2.2.2.size)
      have HRB : Hid (Rd w7 w7.heap.size A7 (sv ts)) := Lib.hid HV7.out.2.2.2.1
      have hc7 : ts.length ≤ c7 := HV7.out.2.1
      have hcm7 : c7 ≤ 9223372036854775807 := HV7.out.2.2.1
      have HSE : Hid (bytesOf ss = bytesOf ts) := Lib.hid (HS5.out.trans HV7.out.1.symm)
      have HLN : Hid (ts.length = ss.length) := Lib.hid (by rw [← bytesOf_length ts, ← HSE.out, bytesOf_length])
      have hpos : 0 < ss.length := by
        have h := congrArg List.length HS5.out
        rw [bytesOf_length] at h
        have := List.length_pos_iff.2 (cutD_ne s.data.toList)
        omega
      clear HV7 HR5 HS5 HRS
      obtain ⟨b1, o1, rfl, _, HA1⟩ := HRA.out.at_ hpos
      obtain ⟨b2, o2, rfl, _, HA2⟩ := HRB.out.at_ (by rw [HLN.out]; exact hpos)
      have HC1 := Lib.hid HA1
      have HC2 := Lib.hid HA2
      clear HA1 HA2 HRA HRB
      rw [HLN.out] at hc7
      have hlen := HLN.out
      rw [hlen]
      clear hlen
      go_wp2_with fail
      go_loopw [81] (fun i W => ∃ k : Nat, k ≤ ss.length ∧ i = .int .i64 k ∧ Shut (Below w7.heap.size w7 W)) (fun i _ => ss.length - (intOf i).toNat)
      case atStart => exact ⟨0, Nat.zero_le _, rfl, ⟨Below.refl _ _⟩⟩
      case round =>
        obtain ⟨k, hk, rfl, HI⟩ := hrel
        by_cases hlt : k < ss.length
        · have hk2 : k < ts.length := by rw [HLN.out]; exact hlt
          have d1 : wr.cell? ⟨b1, o1 + k, none⟩ = some (.string ss[k]) := cell_below HI.out (HC1.out k hlt)
          have d2 : wr.cell? ⟨b2, o2 + k, none⟩ = some (.string ts[k]) := cell_below HI.out (HC2.out k hk2)
          have hi3 : (k : Int) < (ss.length : Int) := by omega
          have hi4 : (0 : Int) ≤ (k : Int) := by omega
          have heq : ss[k].data.toList = ts[k].data.toList := by
            have h := congrArg (fun l => l[k]?) HSE.out
            simp only [bytesOf_get hlt, bytesOf_get hk2] at h
            exact Option.some.inj h
          have t1 : (ss[k].toList == ts[k].toList) = true := by rw [list_eq, list_eq]; exact beq_iff_eq.2 heq
          have t2 : (ss[k].toList != ts[k].toList) = false := by rw [bne, t1]; rfl
          clear heq
          go_wp2_with fail
          go_quiet (fail)
          go_wp2_with fail
          go_round
          case rel => exact ⟨k + 1, by omega, by go_num, ⟨below_drewN HI.out _⟩⟩
          case measure => simp [intOf]; omega
        · go_wp2_with fail
          go_ret
          exact ⟨rfl, HB7.out.trans (HI.out.mono HB7.out.size)⟩
    | true =>
      have HC := fun (W : World) (hb : Env W a m) => Lib.hid (check_any s a m W hb)
      have HN := fun (W : World) (hb : Env W a m) => Lib.hid (name_any s a m W hb)
      have HLB := fun (W : World) (hb : Env W a m) => Lib.hid (labels_yes s a m W hb hp)
      rw [hp, errV_true] at HC
      rw [hn, errV_true] at HN
      rw [hn] at HRN
      have HPP := HPA
      rw [patR_ok, hp] at HPP
      clear hp hn HPA
      go_enter Tryd.func3, Tryd.ntmps3
      go_wp2_with fail
      with_reducible refine HA.out.mono ?_
      rintro e w1 ⟨rfl, HB1⟩
      go_wp2_with fail
      with_reducible refine (HPP _).out.mono ?_
      rintro e w2 ⟨t, rfl, HV2⟩
      have HB2 := Lib.hid (HB1.out.trans (HV2.out.2.2.mono HB1.out.size))
      have HE2 := Lib.hid (HE.out.below h2 HB2.out)
      clear HV2
      go_wp2_with fail
      with_reducible refine (HC _ HE2.out).out.mono ?_
      rintro e w3 ⟨rfl, HV3⟩
      have HB3 := Lib.hid (HB2.out.trans (HV3.out.mono HB2.out.size))
      have HE3 := Lib.hid (HE.out.below h2 HB3.out)
      clear HV3
      go_wp2_with fail
      with_reducible refine (HN _ HE3.out).out.mono ?_
      rintro e w4 ⟨rfl, HV4⟩
      have HB4 := Lib.hid (HB3.out.trans (HV4.out.mono HB3.out.size))
      have HE4 := Lib.hid (HE.out.below h2 HB4.out)
      clear HV4
      go_wp2_with fail
      with_reducible refine (HLB _ HE4.out).out.mono ?_
      rintro e w5 ⟨A, c, ss, rfl, HV5⟩
      have HB5 := Lib.hid (HB4.out.trans (HV5.out.2.2.2.2.mono HB4.out.size))
      have HR5 := Lib.hid HV5.out.2.2.2.1
      have HS5 := Lib.hid HV5.out.1
      have hc5 : ss.length ≤ c := HV5.out.2.1
      have hcm5 : c ≤ 9223372036854775807 := HV5.out.2.2.1
      clear HV5
      have HE5 := Lib.hid (HE.out.below h2 HB5.out)
      clear HC HN HLB HPP
      have hQ1 := below_call (w := w5) (fun W _ => (HRN W).out)
      have k0 := cell_regrown HE5.out.c0
      go_wp2_with fail
      refine wp_region_quiet_below mixed (by kernel_rfl) ?_
      repeat (quiet_step (exact hQ1 _ _))
      refine wpQuiet_nil ?_
      intro _ hw'
      obtain ⟨⟨dq, osq⟩, hw''⟩ := hw'
      obtain ⟨w6, HW6⟩ : ∃ w6, Shut (w6 = Go.Sort.grow (redrawn w5 dq) osq) := ⟨_, ⟨rfl⟩⟩
      subst hw''
      have HV6 : Hid (Below w5.heap.size w5 w6) := Lib.hid (by rw [HW6.out]; exact below_regrown w5 dq osq)
      rw [← HW6.out]
      clear hQ1 k0 HRN HW6
      have HB6 := Lib.hid (HB5.out.trans (HV6.out.mono HB5.out.size))
      go_wp2_with fail
      with_reducible refine (HRS _).out.mono ?_
      rintro e w7 ⟨A7, c7, ts, rfl, HV7⟩
      have HB7 := Lib.hid (HB6.out.trans (HV7.out.2.2.2.2.mono HB6.out.size))
      have HRA : Hid (Rd w7 w7.heap.size A (sv ss)) := Lib.hid ((((HR5.out.below HV6.out).more HV6.out.size).below HV7.out.2.2.2.2).more HV7.out.2.2.2.2.size)
      have HRB : Hid (Rd w7 w7.heap.size A7 (sv ts)) := Lib.hid HV7.out.2.2.2.1
      have hc7 : ts.length ≤ c7 := HV7.out.2.1
      have hcm7 : c7 ≤ 9223372036854775807 := HV7.out.2.2.1
      have HSE : Hid (bytesOf ss = bytesOf ts) := Lib.hid (HS5.out.trans HV7.out.1.symm)
      have HLN : Hid (ts.length = ss.length) := Lib.hid (by rw [← bytesOf_length ts, ← HSE.out, bytesOf_length])
      have hpos : 0 < ss.length := by
        have h := congrArg List.length HS5.out
        rw [bytesOf_length] at h
        have := List.length_pos_iff.2 (cutD_ne s.data.toList)
        omega
      clear HV7 HR5 HS5 HRS
      obtain ⟨b1, o1, rfl, _, HA1⟩ := HRA.out.at_ hpos
      obtain ⟨b2, o2, rfl, _, HA2⟩ := HRB.out.at_ (by rw [HLN.out]; exact hpos)
      have HC1 := Lib.hid HA1
      have HC2 := Lib.hid HA2
      clear HA1 HA2 HRA HRB
      rw [HLN.out] at hc7
      have hlen := HLN.out
      rw [hlen]
      clear hlen
      go_wp2_with fail
      go_loopw [81] (fun i W => ∃ k : Nat, k ≤ ss.length ∧ i = .int .i64 k ∧ Shut (Below w7.heap.size w7 W)) (fun i _ => ss.length - (intOf i).toNat)
      case atStart => exact ⟨0, Nat.zero_le _, rfl, ⟨Below.refl _ _⟩⟩
      case round =>
        obtain ⟨k, hk, rfl, HI⟩ := hrel
        by_cases hlt : k < ss.length
        · have hk2 : k < ts.length := by rw [HLN.out]; exact hlt
          have d1 : wr.cell? ⟨b1, o1 + k, none⟩ = some (.string ss[k]) := cell_below HI.out (HC1.out k hlt)
          have d2 : wr.cell? ⟨b2, o2 + k, none⟩ = some (.string ts[k]) := cell_below HI.out (HC2.out k hk2)
          have hi3 : (k : Int) < (ss.length : Int) := by omega
          have hi4 : (0 : Int) ≤ (k : Int) := by omega
          have heq : ss[k].data.toList = ts[k].data.toList := by
            have h := congrArg (fun l => l[k]?) HSE.out
            simp only [bytesOf_get hlt, bytesOf_get hk2] at h
            exact Option.some.inj h
          have t1 : (ss[k].toList == ts[k].toList) = true := by rw [list_eq, list_eq]; exact beq_iff_eq.2 heq
          have t2 : (ss[k].toList != ts[k].toList) = false := by rw [bne, t1]; rfl
          clear heq
          go_wp2_with fail
          go_quiet (fail)
          go_wp2_with fail
          go_round
          case rel => exact ⟨k + 1, by omega, by go_num, ⟨below_drewN HI.out _⟩⟩
          case measure => simp [intOf]; omega
        · go_wp2_with fail
          go_ret
          exact ⟨rfl, HB7.out.trans (HI.out.mono HB7.out.size)⟩
end Go.Proofs.YtooplfpffmnkfaaDoor
