/- The law ScanSplits: Split of all bytes is the document's Split. -/
import Derived.Test.YtmhfhdbaeijcfaaDoorRsp
import Derived.Test.YtmhfhdbaeijcfaaDoorRkp
import Derived.Test.YtmhfhdbaeijcfaaDoorNum
namespace Go.Proofs.YtmhfhdbaeijcfaaDoor
open Go.RowKit
open Go.Proofs.YtmhfhdbaeijcfaaDoor.H
/-- Num of the error of a stream, broken or not. -/
theorem num_bad (bad : Bool) (ad : Nat → Addr) (a : Addr) (w : World) (h18 : Eighteen w ad) (ha : ad 0 = a) :
    Calls Tryd.prog 17 #[errV 159 (.pointer (some a)) bad] w fun e w' => e = .returned (.int .i64 (badN bad)) ∧ Hid (Below w.heap.size w w') := by
  cases bad with
  | false => exact (num_none w).mono fun e w' ⟨h1, h2⟩ => ⟨h1, Lib.hid (h2 ▸ Below.refl _ _)⟩
  | true =>
    have h := num_err ad 0 w h18 (by decide)
    rw [ha] at h
    exact h.mono fun e w' ⟨h1, h2⟩ => ⟨h1.trans (by rfl), Lib.hid h2⟩
set_option maxRecDepth 100000 in
set_option maxHeartbeats 4000000 in
theorem splits_any (n c : Nat) (A : Option Addr) (bs : List UInt8) (E : Nat → Value) (ad : Nat → Addr) (a : Addr) (w : World) (hE : Env w E 159 (.pointer (some a))) (hE5 : F.Errs w E) (h18 : Eighteen w ad) (ha : ad 0 = a) (hn : bs.length = n) (hc : n ≤ c) (hcm : c ≤ 9223372036854775807) (hr : Rd w w.heap.size A (bs.map bv)) :
    Calls Tryd.prog 8 #[.slice A n c] w fun e w' => e = .returned (.bool true) ∧ Below w.heap.size w w' := by
  have HE := Lib.hid hE
  have HE5 := Lib.hid hE5
  have H18 := Lib.hid h18
  have HAD := Lib.hid ha
  have h20 := hE.size
  have HN := Lib.hid hn
  have HR := Lib.hid hr
  clear hE hE5 h18 ha hn hr
  go_enter Tryd.func8, Tryd.ntmps8
  go_wp2_with fail
  with_reducible refine (alive6_any E a w HE.out HE5.out).mono ?_
  rintro e w1 ⟨rfl, HB1⟩
  by_cases hbig : 20000 < n
  · have hI : (n : Int) > 20000 := by omega
    go_wp2_with fail
    go_ret
    exact ⟨rfl, HB1.out⟩
  · have hI : ¬ (n : Int) > 20000 := by omega
    have hb : n ≤ 20000 := by omega
    clear hbig
    obtain ⟨fs, r, bad, hcut⟩ := Cut.any n bs (by rw [HN.out]; exact Nat.le_refl _)
    have HCU := Lib.hid hcut
    clear hcut
    have HR1 := Lib.hid ((HR.out.below HB1.out).more HB1.out.size)
    go_wp2_with fail
    with_reducible refine (bytes_any n c A bs w1 HN.out (by omega) HR1.out).mono ?_
    rintro e w2 ⟨X, cx, rfl, HV2⟩
    have hcx : n ≤ cx := by have := HV2.out.1; omega
    have hcxm : cx ≤ 9223372036854775807 := HV2.out.2.1
    have hz1 : w.heap.size ≤ w1.heap.size := HB1.out.size
    have HB2 := Lib.hid (HB1.out.trans (HV2.out.2.2.2.mono hz1))
    have HXB : Hid (Rd w2 w2.heap.size X (bs.map bv)) := Lib.hid (by
      have h := HV2.out.2.2.1.take n
      rwa [← List.map_take, List.take_append_of_le_length (by rw [HN.out]; exact Nat.le_refl _), List.take_of_length_le (by rw [HN.out]; exact Nat.le_refl _)] at h)
    have HE2 := Lib.hid (HE.out.below h20 HB2.out)
    have HE52 := Lib.hid (HE5.out.below h20 HB2.out)
    have HSP := Lib.hid (split_any n cx bs X E 159 (.pointer (some a)) w2 HE2.out HE52.out HN.out hcx hcxm (by omega) HXB.out fs r bad HCU.out)
    obtain ⟨ev, HEV⟩ : ∃ ev, H.Shut (errV 159 (.pointer (some a)) bad = ev) := ⟨_, ⟨rfl⟩⟩
    obtain ⟨K, HK⟩ : ∃ K : Int, H.Shut ((bytesOf fs : Int) = K) := ⟨_, ⟨rfl⟩⟩
    rw [HEV.out, HK.out] at HSP
    clear HV2 HR1
    go_wp2_with fail
    with_reducible refine HSP.out.mono ?_
    rintro e w3 ⟨gs, v3, h3, rfl, HV3⟩
    obtain ⟨A3, c3, rfl, hc3, hcm3, hfr3⟩ := HV3.out.1.frs
    have HFR3 := Lib.hid hfr3
    have HPL : Hid (gs.map Fr.pl = fs) := Lib.hid HV3.out.2.1
    obtain ⟨m, HM⟩ : ∃ m, H.Shut (gs.length = m) := ⟨_, ⟨rfl⟩⟩
    rw [HM.out] at hc3
    rw [HM.out]
    have HB3 := Lib.hid (HB2.out.trans (HV3.out.2.2.mono HB2.out.size))
    clear hfr3 HV3 HSP
    go_wp2_with fail
    with_reducible refine (new_any w3).mono ?_
    rintro e w4 ⟨g, rfl, HV4⟩
    have HB4 := Lib.hid (HB3.out.trans (HV4.out.2.mono HB3.out.size))
    have HT4 := Lib.hid HV4.out.1
    have HR4 := Lib.hid ((HR.out.below HB4.out).more HB4.out.size)
    have HFR4 := Lib.hid ((HFR3.out.below HV4.out.2).more HV4.out.2.size)
    have HRS := Lib.hid (rsplit_any g n c A bs w4 HT4.out HN.out hc hcm (by omega) HR4.out fs r bad HCU.out)
    obtain ⟨bn, HBN⟩ : ∃ bn, H.Shut (badN bad = bn) := ⟨_, ⟨rfl⟩⟩
    rw [HBN.out, HK.out] at HRS
    clear HV4 HFR3 HT4 HR4
    go_wp2_with fail
    with_reducible refine HRS.out.mono ?_
    rintro e w5 ⟨gs2, q5, n5, c5, rfl, HV5⟩
    have HB5 := Lib.hid (HB4.out.trans (HV5.out.2.2.2.mono HB4.out.size))
    have HFR5 := Lib.hid ((HFR4.out.below HV5.out.2.2.2).more HV5.out.2.2.2.size)
    obtain ⟨A5, c5', e5, hc5, hcm5, hfr5⟩ := HV5.out.2.1.frs
    have hnm : n5 = m := by
      have h1 := congrArg List.length HV5.out.2.2.1
      rw [List.length_map, HV5.out.1] at h1
      have h2 := congrArg List.length HPL.out
      rw [List.length_map, HM.out] at h2
      omega
    subst hnm
    injection e5 with e51 e52 e53
    subst e51
    subst e53
    have HFS5 := Lib.hid hfr5
    have HM5 : Hid (gs2.length = n5) := Lib.hid HV5.out.1
    have HPL5 : Hid (gs.map Fr.pl = gs2.map Fr.pl) := Lib.hid (by rw [HPL.out, HV5.out.2.2.1])
    have HSL := Lib.hid (sameList_true n5 c3 c5 A3 (some ⟨q5, 0, none⟩) gs gs2 w5 HM.out HM5.out (by omega) HFR5.out HFS5.out HPL5.out)
    clear HV5 HRS hfr5 e52
    go_wp2_with fail
    with_reducible refine HSL.out.mono ?_
    rintro e w6 ⟨rfl, HB56⟩
    have HB6 := Lib.hid (HB5.out.trans (HB56.out.mono HB5.out.size))
    have HNU := Lib.hid (num_bad bad ad a w6 (H18.out.below H18.out.lt HB6.out) HAD.out)
    rw [HEV.out, HBN.out] at HNU
    clear HSL
    go_wp2_with fail
    with_reducible refine HNU.out.mono ?_
    rintro e w7 ⟨rfl, HB67⟩
    go_wp2_with fail
    go_ret
    exact ⟨rfl, HB6.out.trans (HB67.out.mono HB6.out.size)⟩
end Go.Proofs.YtmhfhdbaeijcfaaDoor
