/- The law LabelWild: a wild pattern fits what has labels ahead of its name. -/
import Derived.Test.YtooplfpffmnkfaaDoorOmath
import Derived.Test.YtooplfpffmnkfaaDoorAlive
namespace Go.Proofs.YtooplfpffmnkfaaDoor
open Go.RowKit

theorem star_bytes (n : ByteArray) : (⟨#[42, 46]⟩ ++ n : ByteArray).data.toList = 42 :: 46 :: n.data.toList := by
  rw [ByteArray.data_append, Array.toList_append]; rfl
theorem long_bytes (h n : ByteArray) : (h ++ ⟨#[46]⟩ ++ n : ByteArray).data.toList = h.data.toList ++ 46 :: n.data.toList := by
  rw [ByteArray.data_append, Array.toList_append, ByteArray.data_append, Array.toList_append, List.append_assoc]; rfl
theorem wild_own {n : List UInt8} (h : nameB n = true) : fitsB n n = true := by
  simp [fitsB, pat_name h, h, cov_name h]
theorem wild_not {n : List UInt8} : fitsB (42 :: 46 :: n) n = false := by
  rw [Bool.eq_false_iff]
  intro hf
  have h3 := (fits_pat hf).2.2
  rw [cov_wild, suffix_iff] at h3
  have := h3.length_le
  simp at this
  omega
theorem wild_long {h n : List UInt8} (hl : nameB (h ++ 46 :: n) = true) (hp : patB (42 :: 46 :: n) = true) : fitsB (42 :: 46 :: n) (h ++ 46 :: n) = true := by
  have : covB (42 :: 46 :: n) (h ++ 46 :: n) = true := by rw [cov_wild, suffix_iff]; exact List.suffix_append _ _
  simp [fitsB, hp, hl, this]
theorem wild_short {h n : List UInt8} (hn : nameB n = true) : fitsB n (h ++ 46 :: n) = false := by
  rw [Bool.eq_false_iff]
  intro hf
  have h3 := (fits_pat hf).2.2
  rw [cov_name hn, beq_iff_eq] at h3
  have := congrArg List.length h3
  simp at this
  omega
theorem wild_back {h n : List UInt8} (hl : nameB (h ++ 46 :: n) = true) : fitsB (h ++ 46 :: n) n = false := by
  rw [Bool.eq_false_iff]
  intro hf
  have h3 := (fits_pat hf).2.2
  rw [cov_name hl, beq_iff_eq] at h3
  have := congrArg List.length h3
  simp at this
  omega

set_option maxHeartbeats 4000000 in
theorem lawWild_any (n : ByteArray) (A : Option Addr) (c : Nat) (ss : List ByteArray) (a : Addr) (m : Int) (w : World) (hE : Env w a m) (hn : n.size ≤ maxLen) (hL : Lst w A ss maxLen) (_hc : ss.length ≤ c) (_hcm : c ≤ 9223372036854775807) : Calls Tryd.prog 7 #[.string n, .slice A ss.length c] w fun e w' => e = .returned (.bool true) ∧ Below w.heap.size w w' := by
  unfold maxLen at hn
  have h2 := hE.lt
  have HA := Lib.hid (alive_any a m w hE)
  have HE := Lib.hid hE
  have HL := Lib.hid hL
  have HN := fun (W : World) (hb : Env W a m) => Lib.hid (name_any n a m W hb)
  clear hE hL
  by_cases gn : 100 < n.size
  · go_enter Tryd.func7, Tryd.ntmps7
    go_wp2_with fail
    with_reducible refine HA.out.mono ?_
    rintro e w1 ⟨rfl, HB1⟩
    go_wp2_with fail
    go_ret
    exact ⟨rfl, HB1.out⟩
  by_cases gs : 20 < ss.length
  · go_enter Tryd.func7, Tryd.ntmps7
    go_wp2_with fail
    with_reducible refine HA.out.mono ?_
    rintro e w1 ⟨rfl, HB1⟩
    go_wp2_with fail
    go_ret
    exact ⟨rfl, HB1.out⟩
  cases hb : nameB n.data.toList with
  | false =>
    rw [hb, errV_false] at HN
    clear hb
    go_enter Tryd.func7, Tryd.ntmps7
    go_wp2_with fail
    with_reducible refine HA.out.mono ?_
    rintro e w1 ⟨rfl, HB1⟩
    have HE1 := Lib.hid (HE.out.below h2 HB1.out)
    go_wp2_with fail
    with_reducible refine (HN _ HE1.out).out.mono ?_
    rintro e w2 ⟨rfl, HV2⟩
    have HB2 := Lib.hid (HB1.out.trans (HV2.out.mono HB1.out.size))
    clear HV2
    go_wp2_with fail
    go_ret
    exact ⟨rfl, HB2.out⟩
  | true =>
    rw [hb, errV_true] at HN
    have HF1 := fun (W : World) (hb : Env W a m) => Lib.hid (fits_any n n a m W hb (by omega) (by omega))
    have hz : (⟨#[42, 46]⟩ ++ n : ByteArray).size ≤ 9223372036854775807 := by rw [ByteArray.size_append]; show 2 + n.size ≤ _; omega
    have HF2 := fun (W : World) (hb : Env W a m) => Lib.hid (fits_any (⟨#[42, 46]⟩ ++ n) n a m W hb hz (by omega))
    rw [wild_own hb] at HF1
    rw [star_bytes, wild_not] at HF2
    have HP := fun (W : World) (hb : Env W a m) => Lib.hid (check_any (⟨#[42, 46]⟩ ++ n) a m W hb)
    rw [star_bytes] at HP
    have HNB := Lib.hid hb
    clear hb
    go_enter Tryd.func7, Tryd.ntmps7
    go_wp2_with fail
    with_reducible refine HA.out.mono ?_
    rintro e w1 ⟨rfl, HB1⟩
    have HE1 := Lib.hid (HE.out.below h2 HB1.out)
    go_wp2_with fail
    with_reducible refine (HN _ HE1.out).out.mono ?_
    rintro e w2 ⟨rfl, HV2⟩
    have HB2 := Lib.hid (HB1.out.trans (HV2.out.mono HB1.out.size))
    clear HV2
    have HE2 := Lib.hid (HE.out.below h2 HB2.out)
    go_wp2_with fail
    with_reducible refine (HF1 _ HE2.out).out.mono ?_
    rintro e w3 ⟨rfl, HV3⟩
    have HB3 := Lib.hid (HB2.out.trans (HV3.out.mono HB2.out.size))
    clear HV3
    have HE3 := Lib.hid (HE.out.below h2 HB3.out)
    go_wp2_with fail
    with_reducible refine (HF2 _ HE3.out).out.mono ?_
    rintro e w4 ⟨rfl, HV4⟩
    have HB4 := Lib.hid (HB3.out.trans (HV4.out.mono HB3.out.size))
    clear HV4
    clear HN HF1 HF2
    go_wp2_with fail
    go_loopw [35] (fun i W => ∃ k : Nat, k ≤ ss.length ∧ i = .int .i64 k ∧ Shut (Below w.heap.size w W)) (fun i _ => ss.length - (intOf i).toNat)
    case atStart => exact ⟨0, Nat.zero_le _, rfl, ⟨HB4.out⟩⟩
    case round =>
      obtain ⟨k, hk, rfl, HI⟩ := hrel
      have HB5 := Lib.hid HI.out
      by_cases hlt : k < ss.length
      · obtain ⟨b0, o0, hA, _, hcl⟩ := (HL.out.below HI.out).rd.at_ (by omega)
        subst hA
        have d1 : wr.cell? ⟨b0, o0 + k, none⟩ = some (.string ss[k]) := hcl k hlt
        clear hcl
        by_cases gh : 100 < ss[k].size
        · go_wp2_with fail
          go_round
          case rel => exact ⟨k + 1, by omega, by go_num, ⟨HI.out⟩⟩
          case measure => simp [intOf]; omega
        have hz2 : (ss[k] ++ ⟨#[46]⟩ ++ n : ByteArray).size ≤ 9223372036854775807 := by
          rw [ByteArray.size_append, ByteArray.size_append]; show ss[k].size + 1 + n.size ≤ _; omega
        have HN2 := fun (W : World) (hb : Env W a m) => Lib.hid (name_any (ss[k] ++ ⟨#[46]⟩ ++ n) a m W hb)
        rw [long_bytes] at HN2
        cases hb2 : nameB (ss[k].data.toList ++ 46 :: n.data.toList) with
        | false =>
          rw [hb2, errV_false] at HN2
          clear hb2
          have HE5 := Lib.hid (HE.out.below h2 HB5.out)
          go_wp2_with fail
          with_reducible refine (HN2 _ HE5.out).out.mono ?_
          rintro e w6 ⟨rfl, HV6⟩
          have HB6 := Lib.hid (HB5.out.trans (HV6.out.mono HB5.out.size))
          clear HV6
          go_wp2_with fail
          go_round
          case rel => exact ⟨k + 1, by omega, by go_num, ⟨HB6.out⟩⟩
          case measure => simp [intOf]; omega
        | true =>
          rw [hb2, errV_true] at HN2
          have HG2 := fun (W : World) (hb : Env W a m) => Lib.hid (fits_any n (ss[k] ++ ⟨#[46]⟩ ++ n) a m W hb (by omega) hz2)
          have HG3 := fun (W : World) (hb : Env W a m) => Lib.hid (fits_any (ss[k] ++ ⟨#[46]⟩ ++ n) n a m W hb hz2 (by omega))
          rw [long_bytes, wild_short HNB.out] at HG2
          rw [long_bytes, wild_back hb2] at HG3
          cases hp : patB (42 :: 46 :: n.data.toList) with
          | false =>
            rw [hp, errV_false] at HP
            clear hb2 hp
            have HE5 := Lib.hid (HE.out.below h2 HB5.out)
            go_wp2_with fail
            with_reducible refine (HN2 _ HE5.out).out.mono ?_
            rintro e w6 ⟨rfl, HV6⟩
            have HB6 := Lib.hid (HB5.out.trans (HV6.out.mono HB5.out.size))
            clear HV6
            have HE6 := Lib.hid (HE.out.below h2 HB6.out)
            go_wp2_with fail
            with_reducible refine (HP _ HE6.out).out.mono ?_
            rintro e w7 ⟨rfl, HV7⟩
            have HB7 := Lib.hid (HB6.out.trans (HV7.out.mono HB6.out.size))
            clear HV7
            have HE7 := Lib.hid (HE.out.below h2 HB7.out)
            go_wp2_with fail
            with_reducible refine (HG2 _ HE7.out).out.mono ?_
            rintro e w8 ⟨rfl, HV8⟩
            have HB8 := Lib.hid (HB7.out.trans (HV8.out.mono HB7.out.size))
            clear HV8
            have HE8 := Lib.hid (HE.out.below h2 HB8.out)
            go_wp2_with fail
            with_reducible refine (HG3 _ HE8.out).out.mono ?_
            rintro e w9 ⟨rfl, HV9⟩
            have HB9 := Lib.hid (HB8.out.trans (HV9.out.mono HB8.out.size))
            clear HV9
            go_wp2_with fail
            go_round
            case rel => exact ⟨k + 1, by omega, by go_num, ⟨HB9.out⟩⟩
            case measure => simp [intOf]; omega
          | true =>
            rw [hp, errV_true] at HP
            have HG1 := fun (W : World) (hb : Env W a m) => Lib.hid (fits_any (⟨#[42, 46]⟩ ++ n) (ss[k] ++ ⟨#[46]⟩ ++ n) a m W hb hz hz2)
            rw [long_bytes, star_bytes, wild_long hb2 hp] at HG1
            clear hb2 hp
            have HE5 := Lib.hid (HE.out.below h2 HB5.out)
            go_wp2_with fail
            with_reducible refine (HN2 _ HE5.out).out.mono ?_
            rintro e w6 ⟨rfl, HV6⟩
            have HB6 := Lib.hid (HB5.out.trans (HV6.out.mono HB5.out.size))
            clear HV6
            have HE6 := Lib.hid (HE.out.below h2 HB6.out)
            go_wp2_with fail
            with_reducible refine (HP _ HE6.out).out.mono ?_
            rintro e w7 ⟨rfl, HV7⟩
            have HB7 := Lib.hid (HB6.out.trans (HV7.out.mono HB6.out.size))
            clear HV7
            have HE7 := Lib.hid (HE.out.below h2 HB7.out)
            go_wp2_with fail
            with_reducible refine (HG1 _ HE7.out).out.mono ?_
            rintro e w8 ⟨rfl, HV8⟩
            have HB8 := Lib.hid (HB7.out.trans (HV8.out.mono HB7.out.size))
            clear HV8
            have HE8 := Lib.hid (HE.out.below h2 HB8.out)
            go_wp2_with fail
            with_reducible refine (HG2 _ HE8.out).out.mono ?_
            rintro e w9 ⟨rfl, HV9⟩
            have HB9 := Lib.hid (HB8.out.trans (HV9.out.mono HB8.out.size))
            clear HV9
            have HE9 := Lib.hid (HE.out.below h2 HB9.out)
            go_wp2_with fail
            with_reducible refine (HG3 _ HE9.out).out.mono ?_
            rintro e w10 ⟨rfl, HV10⟩
            have HB10 := Lib.hid (HB9.out.trans (HV10.out.mono HB9.out.size))
            clear HV10
            go_wp2_with fail
            go_round
            case rel => exact ⟨k + 1, by omega, by go_num, ⟨HB10.out⟩⟩
            case measure => simp [intOf]; omega
      · go_wp2_with fail
        go_ret
        exact ⟨rfl, HB5.out⟩
end Go.Proofs.YtooplfpffmnkfaaDoor
