/- The law LabelOrder: a name is better than all patterns; of two wild ones that fit, the one that is under the other is. -/
import Derived.Test.YtooplfpffmnkfaaDoorOmath
import Derived.Test.YtooplfpffmnkfaaDoorAlive
namespace Go.Proofs.YtooplfpffmnkfaaDoor
open Go.RowKit

theorem lst_two (W : World) (p q : ByteArray) (S : Nat) (hp : p.size ≤ S) (hq : q.size ≤ S) : Lst (W.alloc (.cells #[.string p, .string q] 9)) (some ⟨W.heap.size, 0, none⟩) [p, q] S := by
  refine ⟨.inr ⟨_, rfl, by simp, fun j u hj => ?_⟩, fun k hk => ?_⟩
  · have e : (⟨W.heap.size, 0, none⟩ : Addr).add j = ⟨W.heap.size, j, none⟩ := by simp [Addr.add]; omega
    rw [e]
    match j with
    | 0 => simp [sv] at hj; rw [← hj]; simp
    | 1 => simp [sv] at hj; rw [← hj]; simp
    | j + 2 => simp [sv] at hj
  · match k, hk with
    | 0, _ => exact hp
    | 1, _ => exact hq
    | k + 2, h => simp at h; omega

set_option maxHeartbeats 4000000 in
theorem lawOrder_any (p q n : ByteArray) (a : Addr) (m : Int) (w : World) (hE : Env w a m) (hp : p.size ≤ maxLen) (hq : q.size ≤ maxLen) (hn : n.size ≤ maxLen) : Calls Tryd.prog 8 #[.string p, .string q, .string n] w fun e w' => e = .returned (.bool true) ∧ Below w.heap.size w w' := by
  unfold maxLen at hp hq hn
  have h2 := hE.lt
  have HA := Lib.hid (alive_any a m w hE)
  have HE := Lib.hid hE
  have HF1 := fun (W : World) (hb : Env W a m) => Lib.hid (fits_any p n a m W hb (by omega) (by omega))
  have HF2 := fun (W : World) (hb : Env W a m) => Lib.hid (fits_any q n a m W hb (by omega) (by omega))
  clear hE
  by_cases gp : 200 < p.size
  · go_enter Tryd.func8, Tryd.ntmps8
    go_wp2_with fail
    with_reducible refine HA.out.mono ?_
    rintro e w1 ⟨rfl, HB1⟩
    go_wp2_with fail
    go_ret
    exact ⟨rfl, HB1.out⟩
  by_cases gq : 200 < q.size
  · go_enter Tryd.func8, Tryd.ntmps8
    go_wp2_with fail
    with_reducible refine HA.out.mono ?_
    rintro e w1 ⟨rfl, HB1⟩
    go_wp2_with fail
    go_ret
    exact ⟨rfl, HB1.out⟩
  by_cases gn : 200 < n.size
  · go_enter Tryd.func8, Tryd.ntmps8
    go_wp2_with fail
    with_reducible refine HA.out.mono ?_
    rintro e w1 ⟨rfl, HB1⟩
    go_wp2_with fail
    go_ret
    exact ⟨rfl, HB1.out⟩
  cases f1 : fitsB p.data.toList n.data.toList with
  | false =>
    rw [f1] at HF1
    clear f1
    go_enter Tryd.func8, Tryd.ntmps8
    go_wp2_with fail
    with_reducible refine HA.out.mono ?_
    rintro e w1 ⟨rfl, HB1⟩
    have HE1 := Lib.hid (HE.out.below h2 HB1.out)
    go_wp2_with fail
    with_reducible refine (HF1 _ HE1.out).out.mono ?_
    rintro e w2 ⟨rfl, HV2⟩
    have HB2 := Lib.hid (HB1.out.trans (HV2.out.mono HB1.out.size))
    clear HV2
    go_wp2_with fail
    go_ret
    exact ⟨rfl, HB2.out⟩
  | true =>
    cases f2 : fitsB q.data.toList n.data.toList with
    | false =>
      rw [f1] at HF1
      rw [f2] at HF2
      clear f1 f2
      go_enter Tryd.func8, Tryd.ntmps8
      go_wp2_with fail
      with_reducible refine HA.out.mono ?_
      rintro e w1 ⟨rfl, HB1⟩
      have HE1 := Lib.hid (HE.out.below h2 HB1.out)
      go_wp2_with fail
      with_reducible refine (HF1 _ HE1.out).out.mono ?_
      rintro e w2 ⟨rfl, HV2⟩
      have HB2 := Lib.hid (HB1.out.trans (HV2.out.mono HB1.out.size))
      clear HV2
      have HE2 := Lib.hid (HE.out.below h2 HB2.out)
      go_wp2_with fail
      with_reducible refine (HF2 _ HE2.out).out.mono ?_
      rintro e w3 ⟨rfl, HV3⟩
      have HB3 := Lib.hid (HB2.out.trans (HV3.out.mono HB2.out.size))
      clear HV3
      go_wp2_with fail
      go_ret
      exact ⟨rfl, HB3.out⟩
    | true =>
      rw [f1] at HF1
      rw [f2] at HF2
      by_cases hpq : p.data.toList = q.data.toList
      · have t1 : (p.toList == q.toList) = true := by rw [list_eq, list_eq]; exact beq_iff_eq.2 hpq
        clear f1 f2 hpq
        go_enter Tryd.func8, Tryd.ntmps8
        go_wp2_with fail
        with_reducible refine HA.out.mono ?_
        rintro e w1 ⟨rfl, HB1⟩
        have HE1 := Lib.hid (HE.out.below h2 HB1.out)
        go_wp2_with fail
        with_reducible refine (HF1 _ HE1.out).out.mono ?_
        rintro e w2 ⟨rfl, HV2⟩
        have HB2 := Lib.hid (HB1.out.trans (HV2.out.mono HB1.out.size))
        clear HV2
        have HE2 := Lib.hid (HE.out.below h2 HB2.out)
        go_wp2_with fail
        with_reducible refine (HF2 _ HE2.out).out.mono ?_
        rintro e w3 ⟨rfl, HV3⟩
        have HB3 := Lib.hid (HB2.out.trans (HV3.out.mono HB2.out.size))
        clear HV3
        go_wp2_with fail
        go_ret
        exact ⟨rfl, HB3.out⟩
      have t1 : (p.toList == q.toList) = false := by rw [list_eq, list_eq]; exact beq_eq_false_iff_ne.2 hpq
      have HBT : Hid (bestL (bytesOf [p, q]) n.data.toList 2 = if betterB q.data.toList p.data.toList n.data.toList = true then some 1 else some 0) := Lib.hid (best_two f1 f2)
      have HBE := fun (W : World) (hb : Env W a m) (hb2 : Env (W.alloc (.cells #[.string p, .string q] 9)) a m) => Lib.hid (best_any (some ⟨W.heap.size, 0, none⟩) 2 9223372036854775807 [p, q] n a m _ hb2 (lst_two W p q _ (by omega) (by omega)) (by omega) (Nat.le_refl 2) (by decide) (by omega))
      rw [show [p, q].length = 2 from rfl, HBT.out] at HBE
      by_cases hpn : p.data.toList = n.data.toList
      · have t2 : (p.toList == n.toList) = true := by rw [list_eq, list_eq]; exact beq_iff_eq.2 hpn
        have e0 : (if betterB q.data.toList p.data.toList n.data.toList = true then some 1 else some 0 : Option Nat) = some 0 := by simp [betterB, hpn]
        rw [e0, show ov (some 0) = 0 from rfl] at HBE
        clear f1 f2 hpq hpn HBT e0
        go_enter Tryd.func8, Tryd.ntmps8
        go_wp2_with fail
        with_reducible refine HA.out.mono ?_
        rintro e w1 ⟨rfl, HB1⟩
        have HE1 := Lib.hid (HE.out.below h2 HB1.out)
        go_wp2_with fail
        with_reducible refine (HF1 _ HE1.out).out.mono ?_
        rintro e w2 ⟨rfl, HV2⟩
        have HB2 := Lib.hid (HB1.out.trans (HV2.out.mono HB1.out.size))
        clear HV2
        have HE2 := Lib.hid (HE.out.below h2 HB2.out)
        go_wp2_with fail
        with_reducible refine (HF2 _ HE2.out).out.mono ?_
        rintro e w3 ⟨rfl, HV3⟩
        have HB3 := Lib.hid (HB2.out.trans (HV3.out.mono HB2.out.size))
        clear HV3
        have HE3 := Lib.hid (HE.out.below h2 HB3.out)
        have HB3a := Lib.hid (HB3.out.alloc HB3.out.size (.cells #[.string p, .string q] 9))
        have HE3a := Lib.hid (HE.out.below h2 HB3a.out)
        go_wp2_with fail
        with_reducible refine (HBE w3 HE3.out HE3a.out).out.mono ?_
        rintro e w4 ⟨rfl, HV4⟩
        have HB4 := Lib.hid (HB3a.out.trans (HV4.out.mono HB3a.out.size))
        clear HV4
        go_wp2_with fail
        go_ret
        exact ⟨rfl, HB4.out⟩
      have t2 : (p.toList == n.toList) = false := by rw [list_eq, list_eq]; exact beq_eq_false_iff_ne.2 hpn
      by_cases hqn : q.data.toList = n.data.toList
      · have t3 : (q.toList == n.toList) = true := by rw [list_eq, list_eq]; exact beq_iff_eq.2 hqn
        have e0 : (if betterB q.data.toList p.data.toList n.data.toList = true then some 1 else some 0 : Option Nat) = some 1 := by
          rw [betterB, hqn, bne_iff_ne.2 hpn]; simp
        rw [e0, show ov (some 1) = 1 from rfl] at HBE
        clear f1 f2 hpq hpn hqn HBT e0
        go_enter Tryd.func8, Tryd.ntmps8
        go_wp2_with fail
        with_reducible refine HA.out.mono ?_
        rintro e w1 ⟨rfl, HB1⟩
        have HE1 := Lib.hid (HE.out.below h2 HB1.out)
        go_wp2_with fail
        with_reducible refine (HF1 _ HE1.out).out.mono ?_
        rintro e w2 ⟨rfl, HV2⟩
        have HB2 := Lib.hid (HB1.out.trans (HV2.out.mono HB1.out.size))
        clear HV2
        have HE2 := Lib.hid (HE.out.below h2 HB2.out)
        go_wp2_with fail
        with_reducible refine (HF2 _ HE2.out).out.mono ?_
        rintro e w3 ⟨rfl, HV3⟩
        have HB3 := Lib.hid (HB2.out.trans (HV3.out.mono HB2.out.size))
        clear HV3
        have HE3 := Lib.hid (HE.out.below h2 HB3.out)
        have HB3a := Lib.hid (HB3.out.alloc HB3.out.size (.cells #[.string p, .string q] 9))
        have HE3a := Lib.hid (HE.out.below h2 HB3a.out)
        go_wp2_with fail
        with_reducible refine (HBE w3 HE3.out HE3a.out).out.mono ?_
        rintro e w4 ⟨rfl, HV4⟩
        have HB4 := Lib.hid (HB3a.out.trans (HV4.out.mono HB3a.out.size))
        clear HV4
        go_wp2_with fail
        go_ret
        exact ⟨rfl, HB4.out⟩
      have t3 : (q.toList == n.toList) = false := by rw [list_eq, list_eq]; exact beq_eq_false_iff_ne.2 hqn
      obtain ⟨u1, u2, u3⟩ := under_len f1 f2 hpn hqn hpq
      have hnn := (fits_pat f1).2.1
      have HU1 := fun (W : World) (hb : Env W a m) => Lib.hid (under_any p q a m W hb (by omega) (by omega))
      have HU2 := fun (W : World) (hb : Env W a m) => Lib.hid (under_any q p a m W hb (by omega) (by omega))
      have HNR := fun (W : World) (_ : Env W a m) => Lib.hid (refName_any n W (by omega))
      rw [hnn] at HNR
      rw [u1] at HU1
      rw [u2] at HU2
      by_cases hlt : p.data.toList.length < q.data.toList.length
      · have e0 : (if betterB q.data.toList p.data.toList n.data.toList = true then some 1 else some 0 : Option Nat) = some 1 := by
          rw [betterB, bne_iff_ne.2 hpn, decide_eq_true hlt]; simp
        rw [e0, show ov (some 1) = 1 from rfl] at HBE
        rw [decide_eq_false (by omega)] at HU1
        rw [decide_eq_true hlt] at HU2
        clear f1 f2 hpq hpn hqn HBT e0 u1 u2 u3 hnn hlt
        go_enter Tryd.func8, Tryd.ntmps8
        go_wp2_with fail
        with_reducible refine HA.out.mono ?_
        rintro e w1 ⟨rfl, HB1⟩
        have HE1 := Lib.hid (HE.out.below h2 HB1.out)
        go_wp2_with fail
        with_reducible refine (HF1 _ HE1.out).out.mono ?_
        rintro e w2 ⟨rfl, HV2⟩
        have HB2 := Lib.hid (HB1.out.trans (HV2.out.mono HB1.out.size))
        clear HV2
        have HE2 := Lib.hid (HE.out.below h2 HB2.out)
        go_wp2_with fail
        with_reducible refine (HF2 _ HE2.out).out.mono ?_
        rintro e w3 ⟨rfl, HV3⟩
        have HB3 := Lib.hid (HB2.out.trans (HV3.out.mono HB2.out.size))
        clear HV3
        have HE3 := Lib.hid (HE.out.below h2 HB3.out)
        have HB3a := Lib.hid (HB3.out.alloc HB3.out.size (.cells #[.string p, .string q] 9))
        have HE3a := Lib.hid (HE.out.below h2 HB3a.out)
        go_wp2_with fail
        with_reducible refine (HBE w3 HE3.out HE3a.out).out.mono ?_
        rintro e w4 ⟨rfl, HV4⟩
        have HB4 := Lib.hid (HB3a.out.trans (HV4.out.mono HB3a.out.size))
        clear HV4
        have HE4 := Lib.hid (HE.out.below h2 HB4.out)
        go_wp2_with fail
        with_reducible refine (HU1 _ HE4.out).out.mono ?_
        rintro e w5 ⟨rfl, HV5⟩
        have HB5 := Lib.hid (HB4.out.trans (HV5.out.mono HB4.out.size))
        clear HV5
        have HE5 := Lib.hid (HE.out.below h2 HB5.out)
        go_wp2_with fail
        with_reducible refine (HU2 _ HE5.out).out.mono ?_
        rintro e w6 ⟨rfl, HV6⟩
        have HB6 := Lib.hid (HB5.out.trans (HV6.out.mono HB5.out.size))
        clear HV6
        have HE6 := Lib.hid (HE.out.below h2 HB6.out)
        go_wp2_with fail
        with_reducible refine (HNR _ HE6.out).out.mono ?_
        rintro e w7 ⟨rfl, HV7⟩
        have HB7 := Lib.hid (HB6.out.trans (HV7.out.mono HB6.out.size))
        clear HV7
        go_wp2_with fail
        go_ret
        exact ⟨rfl, HB7.out⟩
      · have e0 : (if betterB q.data.toList p.data.toList n.data.toList = true then some 1 else some 0 : Option Nat) = some 0 := by
          rw [betterB, bne_iff_ne.2 hpn, decide_eq_false hlt, beq_eq_false_iff_ne.2 hqn]; simp
        rw [e0, show ov (some 0) = 0 from rfl] at HBE
        rw [decide_eq_true (by omega)] at HU1
        rw [decide_eq_false hlt] at HU2
        clear f1 f2 hpq hpn hqn HBT e0 u1 u2 u3 hnn hlt
        go_enter Tryd.func8, Tryd.ntmps8
        go_wp2_with fail
        with_reducible refine HA.out.mono ?_
        rintro e w1 ⟨rfl, HB1⟩
        have HE1 := Lib.hid (HE.out.below h2 HB1.out)
        go_wp2_with fail
        with_reducible refine (HF1 _ HE1.out).out.mono ?_
        rintro e w2 ⟨rfl, HV2⟩
        have HB2 := Lib.hid (HB1.out.trans (HV2.out.mono HB1.out.size))
        clear HV2
        have HE2 := Lib.hid (HE.out.below h2 HB2.out)
        go_wp2_with fail
        with_reducible refine (HF2 _ HE2.out).out.mono ?_
        rintro e w3 ⟨rfl, HV3⟩
        have HB3 := Lib.hid (HB2.out.trans (HV3.out.mono HB2.out.size))
        clear HV3
        have HE3 := Lib.hid (HE.out.below h2 HB3.out)
        have HB3a := Lib.hid (HB3.out.alloc HB3.out.size (.cells #[.string p, .string q] 9))
        have HE3a := Lib.hid (HE.out.below h2 HB3a.out)
        go_wp2_with fail
        with_reducible refine (HBE w3 HE3.out HE3a.out).out.mono ?_
        rintro e w4 ⟨rfl, HV4⟩
        have HB4 := Lib.hid (HB3a.out.trans (HV4.out.mono HB3a.out.size))
        clear HV4
        have HE4 := Lib.hid (HE.out.below h2 HB4.out)
        go_wp2_with fail
        with_reducible refine (HU1 _ HE4.out).out.mono ?_
        rintro e w5 ⟨rfl, HV5⟩
        have HB5 := Lib.hid (HB4.out.trans (HV5.out.mono HB4.out.size))
        clear HV5
        have HE5 := Lib.hid (HE.out.below h2 HB5.out)
        go_wp2_with fail
        with_reducible refine (HU2 _ HE5.out).out.mono ?_
        rintro e w6 ⟨rfl, HV6⟩
        have HB6 := Lib.hid (HB5.out.trans (HV6.out.mono HB5.out.size))
        clear HV6
        have HE6 := Lib.hid (HE.out.below h2 HB6.out)
        go_wp2_with fail
        with_reducible refine (HNR _ HE6.out).out.mono ?_
        rintro e w7 ⟨rfl, HV7⟩
        have HB7 := Lib.hid (HB6.out.trans (HV7.out.mono HB6.out.size))
        clear HV7
        go_wp2_with fail
        go_ret
        exact ⟨rfl, HB7.out⟩
end Go.Proofs.YtooplfpffmnkfaaDoor
