/- What a pattern fits; which is under which. -/
import Derived.Test.YtooplfpffmnkfaaDoorRname
namespace Go.Proofs.YtooplfpffmnkfaaDoor
open Go.RowKit

theorem errV_true (a : Addr) : errV a true = .nilIface := rfl
theorem errV_false (a : Addr) : errV a false = .iface 57 (.pointer (some a)) := rfl
set_option maxHeartbeats 1000000 in
theorem fits_any (p n : ByteArray) (a : Addr) (m : Int) (w : World) (hE : Env w a m) (hp : p.size ≤ 9223372036854775807) (hn : n.size ≤ 9223372036854775807) : Calls Tryd.prog 16 #[.string p, .string n] w fun e w' => e = .returned (.bool (fitsB p.data.toList n.data.toList)) ∧ Hid (Below w.heap.size w w') := by
  have h2 := hE.lt
  have HC := Lib.hid (check_any p a m w hE)
  have HE := Lib.hid hE
  clear hE
  cases h1 : patB p.data.toList with
  | false =>
    have HL : Hid (fitsB p.data.toList n.data.toList = false) := Lib.hid (by simp [fitsB, h1])
    rw [h1, errV_false] at HC
    clear h1
    go_enter Tryd.func16, Tryd.ntmps16
    go_wp2_with fail
    with_reducible refine HC.out.mono ?_
    rintro e w1 ⟨rfl, HB1⟩
    go_wp2_with fail
    go_ret
    exact ⟨by rw [HL.out]; rfl, HB1⟩
  | true =>
    rw [h1, errV_true] at HC
    cases h3 : nameB n.data.toList with
    | false =>
      have HL : Hid (fitsB p.data.toList n.data.toList = false) := Lib.hid (by simp [fitsB, h3])
      clear h1
      go_enter Tryd.func16, Tryd.ntmps16
      go_wp2_with fail
      with_reducible refine HC.out.mono ?_
      rintro e w1 ⟨rfl, HB1⟩
      have HN := Lib.hid (name_any n a m w1 (HE.out.below h2 HB1.out))
      rw [h3, errV_false] at HN
      clear h3
      go_wp2_with fail
      with_reducible refine HN.out.mono ?_
      rintro e w2 ⟨rfl, HB2⟩
      go_wp2_with fail
      go_ret
      exact ⟨by rw [HL.out]; rfl, Lib.hid (HB1.out.trans (HB2.out.mono HB1.out.size))⟩
    | true =>
      have HL : Hid (fitsB p.data.toList n.data.toList = covB p.data.toList n.data.toList) := Lib.hid (by simp [fitsB, h1, h3])
      clear h1
      go_enter Tryd.func16, Tryd.ntmps16
      go_wp2_with fail
      with_reducible refine HC.out.mono ?_
      rintro e w1 ⟨rfl, HB1⟩
      have HN := Lib.hid (name_any n a m w1 (HE.out.below h2 HB1.out))
      rw [h3, errV_true] at HN
      clear h3
      go_wp2_with fail
      with_reducible refine HN.out.mono ?_
      rintro e w2 ⟨rfl, HB2⟩
      go_wp2_with fail
      with_reducible refine (covers_any p n w2 hp hn).mono ?_
      rintro e _ ⟨rfl, rfl⟩
      go_wp2_with fail
      go_ret
      exact ⟨by rw [HL.out]; rfl, Lib.hid (HB1.out.trans (HB2.out.mono HB1.out.size))⟩
set_option maxHeartbeats 1000000 in
theorem under_any (p n : ByteArray) (a : Addr) (m : Int) (w : World) (hE : Env w a m) (hp : p.size ≤ 9223372036854775807) (hn : n.size ≤ 9223372036854775807) : Calls Tryd.prog 20 #[.string p, .string n] w fun e w' => e = .returned (.bool (underB p.data.toList n.data.toList)) ∧ Hid (Below w.heap.size w w') := by
  have h2 := hE.lt
  have HC := Lib.hid (check_any p a m w hE)
  have HE := Lib.hid hE
  clear hE
  cases h1 : patB p.data.toList with
  | false =>
    have HL : Hid (underB p.data.toList n.data.toList = false) := Lib.hid (by simp [underB, h1])
    rw [h1, errV_false] at HC
    clear h1
    go_enter Tryd.func20, Tryd.ntmps20
    go_wp2_with fail
    with_reducible refine HC.out.mono ?_
    rintro e w1 ⟨rfl, HB1⟩
    go_wp2_with fail
    go_ret
    exact ⟨by rw [HL.out]; rfl, HB1⟩
  | true =>
    rw [h1, errV_true] at HC
    cases h3 : patB n.data.toList with
    | false =>
      have HL : Hid (underB p.data.toList n.data.toList = false) := Lib.hid (by simp [underB, h3])
      clear h1
      go_enter Tryd.func20, Tryd.ntmps20
      go_wp2_with fail
      with_reducible refine HC.out.mono ?_
      rintro e w1 ⟨rfl, HB1⟩
      have HN := Lib.hid (check_any n a m w1 (HE.out.below h2 HB1.out))
      rw [h3, errV_false] at HN
      clear h3
      go_wp2_with fail
      with_reducible refine HN.out.mono ?_
      rintro e w2 ⟨rfl, HB2⟩
      go_wp2_with fail
      go_ret
      exact ⟨by rw [HL.out]; rfl, Lib.hid (HB1.out.trans (HB2.out.mono HB1.out.size))⟩
    | true =>
      cases h4 : voidB p.data.toList with
      | true =>
        have HL : Hid (underB p.data.toList n.data.toList = true) := Lib.hid (by simp [underB, h1, h3, h4])
        clear h1
        go_enter Tryd.func20, Tryd.ntmps20
        go_wp2_with fail
        with_reducible refine HC.out.mono ?_
        rintro e w1 ⟨rfl, HB1⟩
        have HN := Lib.hid (check_any n a m w1 (HE.out.below h2 HB1.out))
        rw [h3, errV_true] at HN
        clear h3
        go_wp2_with fail
        with_reducible refine HN.out.mono ?_
        rintro e w2 ⟨rfl, HB2⟩
        have HV := Lib.hid (void_any p w2)
        rw [h4] at HV
        clear h4
        go_wp2_with fail
        with_reducible refine HV.out.mono ?_
        rintro e _ ⟨rfl, rfl⟩
        go_wp2_with fail
        go_ret
        exact ⟨by rw [HL.out]; rfl, Lib.hid (HB1.out.trans (HB2.out.mono HB1.out.size))⟩
      | false =>
        have HL : Hid (underB p.data.toList n.data.toList = covB n.data.toList p.data.toList) := Lib.hid (by simp [underB, h1, h3, h4])
        clear h1
        go_enter Tryd.func20, Tryd.ntmps20
        go_wp2_with fail
        with_reducible refine HC.out.mono ?_
        rintro e w1 ⟨rfl, HB1⟩
        have HN := Lib.hid (check_any n a m w1 (HE.out.below h2 HB1.out))
        rw [h3, errV_true] at HN
        clear h3
        go_wp2_with fail
        with_reducible refine HN.out.mono ?_
        rintro e w2 ⟨rfl, HB2⟩
        have HV := Lib.hid (void_any p w2)
        rw [h4] at HV
        clear h4
        go_wp2_with fail
        with_reducible refine HV.out.mono ?_
        rintro e _ ⟨rfl, rfl⟩
        go_wp2_with fail
        with_reducible refine (covers_any n p _ hn hp).mono ?_
        rintro e _ ⟨rfl, rfl⟩
        go_wp2_with fail
        go_ret
        exact ⟨by rw [HL.out]; rfl, Lib.hid (HB1.out.trans (HB2.out.mono HB1.out.size))⟩
end Go.Proofs.YtooplfpffmnkfaaDoor
