/- The law FieldsBack: what is made is taken apart again as it was, and what is taken is made again byte by byte. -/
import Derived.Test.YtcphfgiegpnpeaaDoorCutsw
namespace Go.Proofs.YtcphfgiegpnpeaaDoor
open Go.RowKit

theorem norms_length {l : List UInt8} : ∀ {cs : List FC}, cs.length = l.length → (norms l cs).length = cs.length := by
  induction l with
  | nil => intro cs h; rw [List.eq_nil_of_length_eq_zero h]; rfl
  | cons c l ih =>
    intro cs h
    match cs, h with
    | x :: cs, h => simp only [norms, List.length_cons]; rw [ih (by simpa using h)]
theorem norms_get {l : List UInt8} : ∀ {cs : List FC} {k : Nat} (hl : k < l.length) (hc : k < cs.length) (hn : k < (norms l cs).length), (norms l cs)[k] = normC l[k].toNat cs[k] := by
  induction l with
  | nil => intro cs k hl; simp at hl
  | cons c l ih =>
    intro cs k hl hc hn
    match cs with
    | [] => simp at hc
    | x :: cs =>
      match k with
      | 0 => rfl
      | k + 1 => exact ih (by simpa using hl) (by simpa using hc) (by simpa [norms] using hn)
theorem decF_back {l x : List UInt8} {cs : List FC} (h : encF l cs = .ok x) (hok : ∀ y ∈ cs, y.ok) : decF l x = .ok (norms l cs) := by
  obtain ⟨hk, hl, rfl, hs⟩ := encF_ok h
  have := dec_enc hk hl hok hs []
  rw [List.append_nil, if_pos rfl] at this
  rw [decF, if_pos hk, this]
theorem encF_back {l bs : List UInt8} {cs : List FC} (hm : bs.length ≤ maxLen) (h : decF l bs = .ok cs) : encF l cs = .ok bs ∧ (∀ x ∈ cs, x.ok) ∧ cs.length = l.length := by
  unfold decF at h
  split at h
  · rename_i hk
    obtain ⟨h1, h2, h3, h4⟩ := enc_dec hk hm h
    refine ⟨?_, h4, h1⟩
    rw [encF_mk hk h1 h3, h2]
  · cases h
theorem f0_neq (W : World) : (binOp .neq 47 (.float .f64 0) (.float .f64 0)).run Tryd.prog W = .ok (.bool false) W := by
  rfl

set_option maxRecDepth 100000 in
set_option maxHeartbeats 800000 in
theorem back_any (E : Nat → Value) (s : ByteArray) (n cap m capm : Nat) (A M : Option Addr) (cs : List FC) (bs : List UInt8) (w : World) (hE : Errs w E) (h5 : 5 ≤ w.heap.size) (hs : s.size ≤ 1048576) (hn : cs.length = n) (hm : bs.length = m) (hcapm : m ≤ capm) (hmax : capm ≤ maxLen)
    (hcs : Cs w w.heap.size A cs) (hok : ∀ x ∈ cs, x.ok) (hbig : n ≤ 1048576) (hr : Rd w w.heap.size M (bs.map bv)) :
    Calls Tryd.prog 5 #[.string s, .slice A n cap, .slice M m capm] w fun e w' => e = .returned (.bool true) ∧ Below w.heap.size w w' := by
  have HE := Lib.hid hE
  have HN := Lib.hid hn
  have HM := Lib.hid hm
  have HC := Lib.hid hcs
  have HO := Lib.hid hok
  have HRM := Lib.hid hr
  clear hE hn hm hcs hok hr
  go_enter Tryd.func5, Tryd.ntmps5
  go_wp2_with fail
  with_reducible refine (alive_any E w HE.out h5).mono ?_
  rintro e w1 ⟨rfl, hb1⟩
  have HB1 := Lib.hid hb1
  clear hb1
  have h51 : 5 ≤ w1.heap.size := Nat.le_trans h5 HB1.out.size
  go_wp2_with fail
  with_reducible refine (enc_all E s n cap A cs w1 (HE.out.below h5 HB1.out) h51 (by simp only [maxLen]; omega) HN.out ((HC.out.keep HB1.out).more HB1.out.size) HO.out hbig).mono ?_
  rintro e w2 ⟨X, mx, cx, ex, rfl, HX⟩
  have HB2 := Lib.hid (HB1.out.trans (HX.out.2.mono HB1.out.size))
  have h52 : 5 ≤ w2.heap.size := Nat.le_trans h5 HB2.out.size
  have HE2 := Lib.hid (HE.out.below h5 HB2.out)
  have hR := HX.out.1
  cases hr : encF s.data.toList cs with
  | error k =>
    rw [hr] at hR
    obtain ⟨_, _, _, hk, hev⟩ := hR
    obtain ⟨t, v, hv⟩ := HE.out.some_ k hk
    rw [hv] at hev
    subst hev
    clear hv hr
    go_wp2_with fail
    have h5q : 5 ≤ w2.heap.size := Nat.le_trans h5 HB2.out.size
    have HEq := Lib.hid (HE.out.below h5 HB2.out)
    with_reducible refine (dec_all E s m capm M bs w2 HEq.out h5q hs HM.out (by omega) hcapm ((HRM.out.below HB2.out).more HB2.out.size)).mono ?_
    rintro e w8 ⟨Y, my, cy, ey, rfl, HY⟩
    have HB8 := Lib.hid (HB2.out.trans (HY.out.2.mono HB2.out.size))
    have h58 : 5 ≤ w8.heap.size := Nat.le_trans h5 HB8.out.size
    have HE8 := Lib.hid (HE.out.below h5 HB8.out)
    have hY := HY.out.1
    cases hd2 : decF s.data.toList bs with
    | error k2 =>
      rw [hd2] at hY
      obtain ⟨_, _, _, hk2, hev2⟩ := hY
      obtain ⟨t2, v2, hv2⟩ := HE.out.some_ k2 hk2
      rw [hv2] at hev2
      subst hev2
      clear hv2 hd2
      go_wp2_with fail
      go_ret
      exact ⟨rfl, HB8.out⟩
    | ok ys =>
      rw [hd2] at hY
      obtain ⟨rfl, rfl, hyc, hyr⟩ := hY
      obtain ⟨he8, ho8, hl8⟩ := encF_back (by rw [HM.out]; omega) hd2
      have hl9 : ys.length ≤ 1048576 := by rw [hl8]; simpa using hs
      have HYR := Lib.hid hyr
      have HE9 := Lib.hid he8
      have HO9 := Lib.hid ho8
      clear hyr he8 ho8 hl8 hd2 HY
      go_wp2_with fail
      with_reducible refine (enc_all E s ys.length cy Y ys w8 HE8.out h58 (by simp only [maxLen]; omega) rfl HYR.out HO9.out hl9).mono ?_
      rintro e w9 ⟨Q, mq, cq, eq, rfl, HQ⟩
      have hQ := HQ.out.1
      rw [HE9.out] at hQ
      obtain ⟨rfl, hmq, hqc, _, _, hqr⟩ := hQ
      have HB9 := Lib.hid (HB8.out.trans (HQ.out.2.mono HB8.out.size))
      have hst1 := hqr.toStr mq cq hmq.symm
      have hst2 := (HRM.out.below HB9.out).toStr m capm HM.out
      clear hqr hmq
      go_wp2_with fail
      go_ret
      exact ⟨rfl, HB9.out⟩
  | ok x =>
    rw [hr] at hR
    obtain ⟨rfl, rfl, hxc, hcm, hxl, hrd⟩ := hR
    have HRD := Lib.hid hrd
    have HR := Lib.hid hr
    have HDB := Lib.hid (decF_back hr HO.out)
    clear hrd hr HX
    go_wp2_with fail
    with_reducible refine (dec_all E s x.length cx X x w2 HE2.out h52 hs rfl (by simp only [maxLen]; omega) hxc HRD.out).mono ?_
    rintro e w3 ⟨Z, mz, cz, ez, rfl, HZ⟩
    have hZ1 := HZ.out.1
    rw [HDB.out] at hZ1
    obtain ⟨rfl, rfl, hzc, hzr⟩ := hZ1
    have HZR := Lib.hid hzr
    have HB3 := Lib.hid (HB2.out.trans (HZ.out.2.mono HB2.out.size))
    have hnl : (norms s.data.toList cs).length = n := by rw [norms_length (encF_ok HR.out).2.1, HN.out]
    have HNL := Lib.hid hnl
    rw [HNL.out]
    rw [hnl] at hzc
    clear hnl hzr HZ
    have hbt := run_bits
    have hfn := f0_neq
    go_wp2_with fail
    go_loopw [43] (fun i W => ∃ k : Nat, k ≤ n ∧ i = .int .i64 k ∧ Hid (∃ j, W = w3.drewN j)) (fun i _ => n - (intOf i).toNat)
    case atStart => exact ⟨0, Nat.zero_le _, rfl, Lib.hid ⟨0, rfl⟩⟩
    case round =>
      obtain ⟨k, hk, rfl, HW⟩ := hrel
      have HBr : Hid (Below w.heap.size w wr) := Lib.hid (by obtain ⟨j, rfl⟩ := HW.out; exact below_drewN HB3.out j)
      by_cases hlt : k < n
      · obtain ⟨hkn, hlen, hxe, hsum⟩ := encF_ok HR.out
        clear hxe
        have hkc : k < cs.length := by rw [HN.out]; exact hlt
        have hks : k < s.size := by have : s.data.toList.length = s.size := by simp
                                    omega
        have hkz : k < (norms s.data.toList cs).length := by rw [HNL.out]; exact hlt
        have hny := norms_get (l := s.data.toList) (cs := cs) (k := k) (by simpa using hks) hkc hkz
        have e1 : s.data.toList[k]'(by simpa using hks) = s[k] := rfl
        rw [e1] at hny
        have h0 := kn_get hkn hks
        have HCr := HC.out.keep HBr.out
        have HZr : Cs wr w3.heap.size Z (norms s.data.toList cs) := by
          obtain ⟨j, hj⟩ := HW.out
          rw [hj]
          exact HZR.out.keep (below_drewN (Below.refl _ _) j)
        obtain ⟨b, o, hA, hbB, hc0, hc1, hc2⟩ := HCr.at_ hkc
        obtain ⟨b2, o2, hZ, hbB2, hz0, hz1, hz2⟩ := HZr.at_ hkz
        subst hA hZ
        rw [hny] at hz0 hz1 hz2
        generalize cs[k] = x0 at *
        have HSB : Hid (s[k].toNat = s[k].toNat) := Lib.hid rfl
        clear e1 hny hkn hlen hsum HCr HZr HSB
        have hkI : (0 : Int) ≤ (k : Int) := by omega
        have hkI2 : (k : Int) < (n : Int) := by omega
        have hkI3 : (k : Int) < (s.size : Int) := by omega
        by_cases hf : s[k].toNat = 102
        · have hnc : normC s[k].toNat x0 = { f := x0.f } := by rw [normC, if_pos hf]
          rw [hnc] at hz0 hz1 hz2
          have hf' : ((s[k].toNat : Int) == 102) = true := by simp [hf]
          clear hnc
          go_wp2_with fail
          go_quiet (fail)
          go_wp2_with fail
          go_roundw
          case rel => exact ⟨k + 1, by omega, by go_num, Lib.hid (drewN_more HW.out _)⟩
          case measure => simp [intOf]; omega
        · have hf' : ((s[k].toNat : Int) == 102) = false := by simp; omega
          cases hT : isT s[k].toNat
          · have hnc : normC s[k].toNat x0 = { n := x0.n } := by rw [normC, if_neg hf, hT]; rfl
            rw [hnc] at hz0 hz1 hz2
            have h116 : ((s[k].toNat : Int) == 116) = false := by unfold isT at hT; have := of_decide_eq_false hT; simp; omega
            have h114 : ((s[k].toNat : Int) == 114) = false := by unfold isT at hT; have := of_decide_eq_false hT; simp; omega
            clear hnc hT
            go_wp2_with fail
            go_quiet (fail)
            go_wp2_with fail
            go_roundw
            case rel => exact ⟨k + 1, by omega, by go_num, Lib.hid (drewN_more HW.out _)⟩
            case measure => simp [intOf]; omega
          · have hnc : normC s[k].toNat x0 = { s := x0.s } := by rw [normC, if_neg hf, if_pos hT]
            rw [hnc] at hz0 hz1 hz2
            have hrt : s[k].toNat = 116 ∨ s[k].toNat = 114 := by unfold isT at hT; exact of_decide_eq_true hT
            clear hnc hT
            rcases hrt with hrt | hrt
            · have h116 : ((s[k].toNat : Int) == 116) = true := by simp [hrt]
              clear hrt
              go_wp2_with fail
              go_quiet (fail)
              go_wp2_with fail
              go_quiet (fail)
              go_wp2_with fail
              go_roundw
              case rel => exact ⟨k + 1, by omega, by go_num, Lib.hid (drewN_more HW.out _)⟩
              case measure => simp [intOf]; omega
            · have h116 : ((s[k].toNat : Int) == 116) = false := by simp; omega
              have h114 : ((s[k].toNat : Int) == 114) = true := by simp [hrt]
              clear hrt
              go_wp2_with fail
              go_quiet (fail)
              go_wp2_with fail
              go_quiet (fail)
              go_wp2_with fail
              go_roundw
              case rel => exact ⟨k + 1, by omega, by go_num, Lib.hid (drewN_more HW.out _)⟩
              case measure => simp [intOf]; omega
      · go_wp2_with fail
        have h5q : 5 ≤ wr.heap.size := Nat.le_trans h5 HBr.out.size
        have HEq := Lib.hid (HE.out.below h5 HBr.out)
        with_reducible refine (dec_all E s m capm M bs wr HEq.out h5q hs HM.out (by omega) hcapm ((HRM.out.below HBr.out).more HBr.out.size)).mono ?_
        rintro e w8 ⟨Y, my, cy, ey, rfl, HY⟩
        have HB8 := Lib.hid (HBr.out.trans (HY.out.2.mono HBr.out.size))
        have h58 : 5 ≤ w8.heap.size := Nat.le_trans h5 HB8.out.size
        have HE8 := Lib.hid (HE.out.below h5 HB8.out)
        have hY := HY.out.1
        cases hd2 : decF s.data.toList bs with
        | error k2 =>
          rw [hd2] at hY
          obtain ⟨_, _, _, hk2, hev2⟩ := hY
          obtain ⟨t2, v2, hv2⟩ := HE.out.some_ k2 hk2
          rw [hv2] at hev2
          subst hev2
          clear hv2 hd2
          go_wp2_with fail
          go_ret
          exact ⟨rfl, HB8.out⟩
        | ok ys =>
          rw [hd2] at hY
          obtain ⟨rfl, rfl, hyc, hyr⟩ := hY
          obtain ⟨he8, ho8, hl8⟩ := encF_back (by rw [HM.out]; omega) hd2
          have hl9 : ys.length ≤ 1048576 := by rw [hl8]; simpa using hs
          have HYR := Lib.hid hyr
          have HE9 := Lib.hid he8
          have HO9 := Lib.hid ho8
          clear hyr he8 ho8 hl8 hd2 HY
          go_wp2_with fail
          with_reducible refine (enc_all E s ys.length cy Y ys w8 HE8.out h58 (by simp only [maxLen]; omega) rfl HYR.out HO9.out hl9).mono ?_
          rintro e w9 ⟨Q, mq, cq, eq, rfl, HQ⟩
          have hQ := HQ.out.1
          rw [HE9.out] at hQ
          obtain ⟨rfl, hmq, hqc, _, _, hqr⟩ := hQ
          have HB9 := Lib.hid (HB8.out.trans (HQ.out.2.mono HB8.out.size))
          have hst1 := hqr.toStr mq cq hmq.symm
          have hst2 := (HRM.out.below HB9.out).toStr m capm HM.out
          clear hqr hmq
          go_wp2_with fail
          go_ret
          exact ⟨rfl, HB9.out⟩
end Go.Proofs.YtcphfgiegpnpeaaDoor
