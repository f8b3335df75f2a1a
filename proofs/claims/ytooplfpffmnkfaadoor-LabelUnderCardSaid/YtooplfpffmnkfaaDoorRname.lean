/- The document's Name and Pattern. -/
import Derived.Test.YtooplfpffmnkfaaDoorRsplit
import Derived.Test.YtooplfpffmnkfaaDoorRleaf
import Derived.Test.YtooplfpffmnkfaaDoorName
import Derived.Lib.QuietBelow
namespace Go.Proofs.YtooplfpffmnkfaaDoor
open Go.RowKit

set_option maxHeartbeats 1000000 in
theorem refName_any (s : ByteArray) (w : World) (hs : s.size ≤ 4294967280) : Calls Tryd.prog 14 #[.string s] w fun e w' => e = .returned (.bool (nameB s.data.toList)) ∧ Hid (Below w.heap.size w w') := by
  go_enter Tryd.func14, Tryd.ntmps14
  go_wp2_with fail
  with_reducible refine (refSplit_any s w hs).mono ?_
  rintro e w1 ⟨A, c, ss, rfl, HV⟩
  have HB := Lib.hid HV.out.2.2.2.2
  have HR := Lib.hid HV.out.2.2.2.1
  have HS := Lib.hid HV.out.1
  have hc : ss.length ≤ c := HV.out.2.1
  have hcm : c ≤ 9223372036854775807 := HV.out.2.2.1
  clear HV
  go_wp2_with fail
  go_loop [10] (fun i => ∃ k : Nat, k ≤ ss.length ∧ i = .int .i64 k ∧ Shut (∀ j (hj : j < ss.length), j < k → labelB ss[j].data.toList = true)) (fun i => ss.length - (intOf i).toNat)
  case atStart => exact ⟨0, Nat.zero_le _, rfl, ⟨fun j _ hj => absurd hj (Nat.not_lt_zero _)⟩⟩
  case round =>
    obtain ⟨k, hk, rfl, HA⟩ := hrel
    by_cases hlt : k < ss.length
    · obtain ⟨ad, rfl, hadb, hcell⟩ := HR.out.cell (sv_get hlt)
      have hsm := piece_small HS.out hlt
      have hsz := size_bytes s
      have hle : ss[k].size ≤ 9223372036854775807 := by omega
      have HI := Lib.hid (refLabel_any ss[k] w1 hle)
      clear hsm hsz hadb
      cases hb : labelB ss[k].data.toList with
      | false =>
        have HL : Hid (nameB s.data.toList = false) := Lib.hid (nameB_bad HS.out hlt hb)
        rw [hb] at HI
        clear hb
        go_wp2_with fail
        with_reducible refine HI.out.mono ?_
        rintro e _ ⟨rfl, rfl⟩
        go_wp2_with fail
        go_ret
        exact ⟨by rw [HL.out]; rfl, HB⟩
      | true =>
        have HN : Shut (∀ j (hj : j < ss.length), j < k + 1 → labelB ss[j].data.toList = true) := ⟨fun j hj hjk => by
          by_cases e : j = k
          · subst e; exact hb
          · exact HA.out j hj (by omega)⟩
        rw [hb] at HI
        clear hb
        go_wp2_with fail
        with_reducible refine HI.out.mono ?_
        rintro e _ ⟨rfl, rfl⟩
        go_wp2_with fail
        go_round
        case rel => exact ⟨k + 1, by omega, by go_num, HN⟩
        case measure => simp [intOf]; omega
    · have HL : Hid (nameB s.data.toList = (decide (ss.length ≤ 8) && decide (s.data.toList.length ≤ 63))) := Lib.hid (nameB_all HS.out (fun j hj => HA.out j hj (by omega)))
      rw [← size_bytes] at HL
      by_cases h8 : ss.length ≤ 8
      · by_cases h63 : s.size ≤ 63
        · have HM : Hid (nameB s.data.toList = true) := Lib.hid (by rw [HL.out]; simp [h8, h63])
          go_wp2_with fail
          go_ret
          exact ⟨by rw [HM.out]; exact ret_bool (by simp; omega), HB⟩
        · have HM : Hid (nameB s.data.toList = false) := Lib.hid (by rw [HL.out]; simp [h63])
          go_wp2_with fail
          go_ret
          exact ⟨by rw [HM.out]; exact ret_bool (by simp; omega), HB⟩
      · have HM : Hid (nameB s.data.toList = false) := Lib.hid (by rw [HL.out]; simp [h8])
        go_wp2_with fail
        go_ret
        exact ⟨by rw [HM.out]; rfl, HB⟩

theorem ext_drop (s : ByteArray) : (s.extract 2 s.size).data.toList = s.data.toList.drop 2 := by
  rw [ByteArray.data_extract, Array.toList_extract, List.extract_eq_take_drop]
  exact List.take_of_length_le (by simp)
theorem ext_take (s : ByteArray) : (s.extract 0 2).data.toList = s.data.toList.take 2 := Go.Lib.extract_from_zero s 2
/-- A call that only makes memory, inside a region that draws its order. -/
theorem below_call {f : FuncId} {args : Array Value} {w : World} {v : Value} (h : ∀ W, Below w.heap.size w W → Calls Tryd.prog f args W fun e w' => e = .returned v ∧ Hid (Below W.heap.size W w')) :
    ∀ d os, Calls Tryd.prog f args (Go.Sort.grow (redrawn w d) os) fun e w'' => e = .returned v ∧ ∃ p : Regrown, w'' = Go.Sort.grow (redrawn w p.d) p.os := fun d os =>
  Calls.regrown_of ((h _ (below_regrown w d os)).mono fun _ _ hx => ⟨hx.1, hx.2.out⟩)
theorem mixed : Tryd.prog.follows .mixedOrders = true := by kernel_rfl
theorem below_drew (w : World) : Below w.heap.size w w.drew := (Below.refl _ _).drew
set_option maxHeartbeats 1000000 in
theorem pattern_any (s : ByteArray) (w : World) (hs : s.size ≤ 4294967280) : Calls Tryd.prog 12 #[.string s] w fun e w' => ∃ t, e = .returned (.tuple #[.string t, .bool (patR s.data.toList).2.1, .bool (patR s.data.toList).2.2]) ∧ Hid (t.data.toList = (patR s.data.toList).1 ∧ t.size ≤ s.size ∧ Below w.heap.size w w') := by
  have hsz := size_bytes s
  have plain : (¬ (2 < s.data.toList.length ∧ s.data.toList.take 2 = [42, 46])) → Hid (patR s.data.toList = (s.data.toList, false, nameB s.data.toList)) := fun h => Lib.hid (by rw [patR, if_neg h])
  have HS := Lib.hid (refName_any s w hs)
  by_cases h2 : 2 < s.size
  · have h2' : 2 ≤ s.size := by omega
    by_cases hp : s.data.toList.take 2 = [42, 46]
    · have t1 : ((s.extract 0 2).toList == [42, 46]) = true := by rw [list_eq, ext_take, hp]; rfl
      have hxs : (s.extract 2 s.size).size ≤ s.size := by simp [ByteArray.size_extract]
      clear HS
      cases hb : nameB (s.data.toList.drop 2) with
      | true =>
        have HN : ∀ W, Hid (Calls Tryd.prog 14 #[.string (s.extract 2 s.size)] W fun e w' => e = .returned (.bool true) ∧ Hid (Below W.heap.size W w')) := fun W => Lib.hid (by
          have := refName_any (s.extract 2 s.size) W (by omega)
          rwa [ext_drop, hb] at this)
        by_cases h63 : s.size ≤ 63
        · have HP : Hid (patR s.data.toList = (s.data.toList.drop 2, true, true)) := Lib.hid (by
            rw [patR, if_pos ⟨by omega, hp⟩, ← hsz, hb, decide_eq_true h63]; rfl)
          rw [HP.out]
          have HX := Lib.hid (ext_drop s)
          have hd63 : decide ((s.size : Int) ≤ 63) = true := by simp; omega
          have hI2 : (2 : Int) ≤ (s.size : Int) := by omega
          clear hsz hp hb plain HP
          go_enter Tryd.func12, Tryd.ntmps12
          go_wp2_with fail
          have hQ := below_call (w := w) (fun W _ => (HN W).out)
          refine wp_region_quiet_below mixed (by kernel_rfl) ?_
          repeat (quiet_step (exact hQ _ _))
          refine wpQuiet_nil ?_
          intro _ hw'
          obtain ⟨⟨dq, osq⟩, hw''⟩ := hw'
          subst hw''
          go_wp2_with fail
          go_ret3
          exact ⟨_, rfl, Lib.hid ⟨HX.out, hxs, below_regrown w dq osq⟩⟩
        · have HP : Hid (patR s.data.toList = (s.data.toList.drop 2, true, false)) := Lib.hid (by
            rw [patR, if_pos ⟨by omega, hp⟩, ← hsz, hb, decide_eq_false h63]; rfl)
          rw [HP.out]
          have HX := Lib.hid (ext_drop s)
          have hd63 : decide ((s.size : Int) ≤ 63) = false := by simp; omega
          have hI2 : (2 : Int) ≤ (s.size : Int) := by omega
          clear hsz hp hb plain HP
          go_enter Tryd.func12, Tryd.ntmps12
          go_wp2_with fail
          have hQ := below_call (w := w) (fun W _ => (HN W).out)
          refine wp_region_quiet_below mixed (by kernel_rfl) ?_
          repeat (quiet_step (exact hQ _ _))
          refine wpQuiet_nil ?_
          intro _ hw'
          obtain ⟨⟨dq, osq⟩, hw''⟩ := hw'
          subst hw''
          go_wp2_with fail
          go_ret3
          exact ⟨_, rfl, Lib.hid ⟨HX.out, hxs, below_regrown w dq osq⟩⟩
      | false =>
        have HN : ∀ W, Hid (Calls Tryd.prog 14 #[.string (s.extract 2 s.size)] W fun e w' => e = .returned (.bool false) ∧ Hid (Below W.heap.size W w')) := fun W => Lib.hid (by
          have := refName_any (s.extract 2 s.size) W (by omega)
          rwa [ext_drop, hb] at this)
        by_cases h63 : s.size ≤ 63
        · have HP : Hid (patR s.data.toList = (s.data.toList.drop 2, true, false)) := Lib.hid (by
            rw [patR, if_pos ⟨by omega, hp⟩, ← hsz, hb, decide_eq_true h63]; rfl)
          rw [HP.out]
          have HX := Lib.hid (ext_drop s)
          have hd63 : decide ((s.size : Int) ≤ 63) = true := by simp; omega
          have hI2 : (2 : Int) ≤ (s.size : Int) := by omega
          clear hsz hp hb plain HP
          go_enter Tryd.func12, Tryd.ntmps12
          go_wp2_with fail
          have hQ := below_call (w := w) (fun W _ => (HN W).out)
          refine wp_region_quiet_below mixed (by kernel_rfl) ?_
          repeat (quiet_step (exact hQ _ _))
          refine wpQuiet_nil ?_
          intro _ hw'
          obtain ⟨⟨dq, osq⟩, hw''⟩ := hw'
          subst hw''
          go_wp2_with fail
          go_ret3
          exact ⟨_, rfl, Lib.hid ⟨HX.out, hxs, below_regrown w dq osq⟩⟩
        · have HP : Hid (patR s.data.toList = (s.data.toList.drop 2, true, false)) := Lib.hid (by
            rw [patR, if_pos ⟨by omega, hp⟩, ← hsz, hb, decide_eq_false h63]; rfl)
          rw [HP.out]
          have HX := Lib.hid (ext_drop s)
          have hd63 : decide ((s.size : Int) ≤ 63) = false := by simp; omega
          have hI2 : (2 : Int) ≤ (s.size : Int) := by omega
          clear hsz hp hb plain HP
          go_enter Tryd.func12, Tryd.ntmps12
          go_wp2_with fail
          have hQ := below_call (w := w) (fun W _ => (HN W).out)
          refine wp_region_quiet_below mixed (by kernel_rfl) ?_
          repeat (quiet_step (exact hQ _ _))
          refine wpQuiet_nil ?_
          intro _ hw'
          obtain ⟨⟨dq, osq⟩, hw''⟩ := hw'
          subst hw''
          go_wp2_with fail
          go_ret3
          exact ⟨_, rfl, Lib.hid ⟨HX.out, hxs, below_regrown w dq osq⟩⟩
    · have HP := plain (fun h => hp h.2)
      have t1 : ((s.extract 0 2).toList == [42, 46]) = false := by rw [list_eq, ext_take]; exact beq_eq_false_iff_ne.2 hp
      rw [HP.out]
      clear hsz hp plain HP
      go_enter Tryd.func12, Tryd.ntmps12
      go_wp2_with fail
      with_reducible refine HS.out.mono ?_
      rintro e w1 ⟨rfl, HB1⟩
      go_wp2_with fail
      go_ret3
      exact ⟨_, rfl, Lib.hid ⟨rfl, Nat.le_refl _, HB1.out⟩⟩
  · have HP := plain (fun h => h2 (by omega))
    rw [HP.out]
    clear hsz plain HP
    go_enter Tryd.func12, Tryd.ntmps12
    go_wp2_with fail
    with_reducible refine HS.out.mono ?_
    rintro e w1 ⟨rfl, HB1⟩
    go_wp2_with fail
    go_ret3
    exact ⟨_, rfl, Lib.hid ⟨rfl, Nat.le_refl _, HB1.out⟩⟩
end Go.Proofs.YtooplfpffmnkfaaDoor
