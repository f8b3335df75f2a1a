/- The law LabelFits: Fits of every pattern and name. -/
import Derived.Test.YtooplfpffmnkfaaDoorAlive
namespace Go.Proofs.YtooplfpffmnkfaaDoor
open Go.RowKit

theorem fits_long {p n : List UInt8} (h : 2000 < p.length ∨ 2000 < n.length) : fitsB p n = false := by
  rw [Bool.eq_false_iff]
  intro hf
  have h1 := pat_len (fits_pat hf).1
  have h2 := name_len (fits_pat hf).2.1
  omega
set_option maxHeartbeats 1000000 in
theorem lawFits_any (p n : ByteArray) (a : Addr) (m : Int) (w : World) (hE : Env w a m) (hp : p.size ≤ maxLen) (hn : n.size ≤ maxLen) : Calls Tryd.prog 4 #[.string p, .string n] w fun e w' => e = .returned (.bool true) ∧ Below w.heap.size w w' := by
  unfold maxLen at hp hn
  have h2 := hE.lt
  have HA := Lib.hid (alive_any a m w hE)
  have HE := Lib.hid hE
  have hsp := size_bytes p
  have hsn := size_bytes n
  clear hE
  by_cases hl : 2000 < p.size
  · have HF : Hid (fitsB p.data.toList n.data.toList = false) := Lib.hid (fits_long (.inl (by omega)))
    clear hsp hsn
    go_enter Tryd.func4, Tryd.ntmps4
    go_wp2_with fail
    with_reducible refine HA.out.mono ?_
    rintro e w1 ⟨rfl, HB1⟩
    have HC := Lib.hid (fits_any p n a m w1 (HE.out.below h2 HB1.out) (by omega) (by omega))
    rw [HF.out] at HC
    go_wp2_with fail
    with_reducible refine HC.out.mono ?_
    rintro e w2 ⟨rfl, HB2⟩
    go_wp2_with fail
    go_ret
    exact ⟨rfl, HB1.out.trans (HB2.out.mono HB1.out.size)⟩
  by_cases hl2 : 2000 < n.size
  · have HF : Hid (fitsB p.data.toList n.data.toList = false) := Lib.hid (fits_long (.inr (by omega)))
    clear hsp hsn
    go_enter Tryd.func4, Tryd.ntmps4
    go_wp2_with fail
    with_reducible refine HA.out.mono ?_
    rintro e w1 ⟨rfl, HB1⟩
    have HC := Lib.hid (fits_any p n a m w1 (HE.out.below h2 HB1.out) (by omega) (by omega))
    rw [HF.out] at HC
    go_wp2_with fail
    with_reducible refine HC.out.mono ?_
    rintro e w2 ⟨rfl, HB2⟩
    go_wp2_with fail
    go_ret
    exact ⟨rfl, HB1.out.trans (HB2.out.mono HB1.out.size)⟩
  clear hsp hsn
  go_enter Tryd.func4, Tryd.ntmps4
  go_wp2_with fail
  with_reducible refine HA.out.mono ?_
  rintro e w1 ⟨rfl, HB1⟩
  have HC := Lib.hid (fits_any p n a m w1 (HE.out.below h2 HB1.out) (by omega) (by omega))
  have HR := fun W => Lib.hid (refFits_any p n W (by omega) (by omega))
  rw [fitsR_eq] at HR
  generalize fitsB p.data.toList n.data.toList = b at *
  go_wp2_with fail
  with_reducible refine HC.out.mono ?_
  rintro e w2 ⟨rfl, HB2⟩
  go_wp2_with fail
  with_reducible refine (HR _).out.mono ?_
  rintro e w3 ⟨rfl, HB3⟩
  have HB2' := Lib.hid (HB1.out.trans (HB2.out.mono HB1.out.size))
  go_wp2_with fail
  go_ret
  exact ⟨ret_bool (by simp), HB2'.out.trans (HB3.out.mono HB2'.out.size)⟩
end Go.Proofs.YtooplfpffmnkfaaDoor
