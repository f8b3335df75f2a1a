/- The law DrumPlays, walked: when there is no drum of the image. -/
import Derived.Test.YtadhgdjgpanddaaDoorPloop
namespace Go.Proofs.YtadhgdjgpanddaaDoor
open Go.RowKit

theorem zero_bad : (0 % 64 ≠ 0 ∨ 0 = 0 ∨ 262144 < 0) := .inr (.inl rfl)
theorem blocks_n (g h n : Nat) (D : Dm) (W : World) (H : DrumAt W g h D) (hn : D.n = n) : Calls Tryd.prog 10 #[.pointer (some ⟨g, 0, none⟩)] W fun x w' => x = .returned (.int .i64 (n : Int)) ∧ W = w' := by
  have := blocks_any g W H
  rwa [hn] at this
set_option maxHeartbeats 4000000 in
set_option maxRecDepth 100000 in
theorem plays_long1 (ad : Nat → Addr) (z0 : Int) (N : Nat) (A : Option Addr) (c : Nat) (v2 : Value) (w : World) (hE : Eighteen w ad) (hz1 : z0 < 1) (hN : 262400 < N) :
    Calls Tryd.prog 3 #[.int .i64 z0, .slice A N c, v2] w fun e w' => e = .returned (.bool true) ∧ Below w.heap.size w w' := by
  have HE := Lib.hid hE
  have h18 := hE.size
  have h18' : 2 ≤ w.heap.size := by omega
  have hNI : (262400 : Int) < (N : Int) := by omega
  have hz := Lib.hid (show z0 < 1 ∨ 4096 < z0 from .inl hz1)
  have hdz : decide (z0 < 1) = true := by simpa using hz1
  clear hE
  go_enter Tryd.func3, Tryd.ntmps3
  go_wp2_with fail
  with_reducible refine (alive_any ad w (errs_of HE.out) h18').mono ?_
  rintro x w1 ⟨rfl, H1⟩
  have HE1 := Lib.hid (HE.out.below HE.out.lt H1.out)
  go_wp2_with fail
  with_reducible refine (new_none ad z0 w1 (errs_of HE1.out) hz.out).mono ?_
  rintro x w2 ⟨rfl, H2⟩
  have HB2 : Hid (Below w.heap.size w w2) := Lib.hid (H1.out.trans (H2.out.mono H1.out.size))
  have HE2 := Lib.hid (HE.out.below HE.out.lt HB2.out)
  have c0 := (errs_of HE2.out).cell 0 (by omega)
  have heq := fun w' => err_neq (ad 0) w'
  have heq2 := fun w' => err_same (ad 0) w'
  go_wp2_with fail
  go_ret
  exact ⟨rfl, HB2.out⟩
set_option maxHeartbeats 4000000 in
set_option maxRecDepth 100000 in
theorem plays_bad1 (ad : Nat → Addr) (z0 : Int) (N : Nat) (A : Option Addr) (c : Nat) (bs : List UInt8) (v2 : Value) (w : World) (hE : Eighteen w ad) (hz1 : z0 < 1) (hN : N ≤ 262400) (hbad : N % 64 ≠ 0 ∨ N = 0 ∨ 262144 < N) (hb : bs.length = N) (hr : Rd w w.heap.size A (bs.map bv)) :
    Calls Tryd.prog 3 #[.int .i64 z0, .slice A N c, v2] w fun e w' => e = .returned (.bool true) ∧ Below w.heap.size w w' := by
  have HE := Lib.hid hE
  have HB := Lib.hid hb
  have HR := Lib.hid hr
  have HBAD := Lib.hid hbad
  have h18 := hE.size
  have h18' : 2 ≤ w.heap.size := by omega
  have hNI : ¬ (262400 : Int) < (N : Int) := by omega
  have hz := Lib.hid (show z0 < 1 ∨ 4096 < z0 from .inl hz1)
  have hdz : decide (z0 < 1) = true := by simpa using hz1
  clear hE hb hr
  rcases (show (N % 64 ≠ 0) ∨ (N = 0) ∨ (N % 64 = 0 ∧ N ≠ 0 ∧ 262144 < N) by omega) with h64 | h64 | h64
  · have hq1 : ((N : Int).tmod 64 == 0) = false := by rw [Int.tmod_eq_emod_of_nonneg (by omega)]; simp; omega
    have hq2 : ((N : Int) % 64 == 0) = false := by simp; omega
    go_enter Tryd.func3, Tryd.ntmps3
    go_wp2_with fail
    with_reducible refine (alive_any ad w (errs_of HE.out) h18').mono ?_
    rintro x w1 ⟨rfl, H1⟩
    have HE1 := Lib.hid (HE.out.below HE.out.lt H1.out)
    go_wp2_with fail
    with_reducible refine (new_none ad z0 w1 (errs_of HE1.out) hz.out).mono ?_
    rintro x w2 ⟨rfl, H2⟩
    have HB2 : Hid (Below w.heap.size w w2) := Lib.hid (H1.out.trans (H2.out.mono H1.out.size))
    have HE2 := Lib.hid (HE.out.below HE.out.lt HB2.out)
    have c0 := (errs_of HE2.out).cell 0 (by omega)
    have heq := fun w' => err_neq (ad 0) w'
    have heq2 := fun w' => err_same (ad 0) w'
    have HR2 := Lib.hid ((HR.out.below HB2.out).more HB2.out.size)
    go_wp2_with fail
    with_reducible refine (bytes_any N c A bs w2 HB.out (by omega) HR2.out).mono ?_
    rintro x w4 ⟨X, c4, rfl, H4⟩
    have HB4 : Hid (Below w.heap.size w w4) := Lib.hid (HB2.out.trans (H4.out.2.mono HB2.out.size))
    have HE4 := Lib.hid (HE.out.below HE.out.lt HB4.out)
    go_wp2_with fail
    with_reducible refine (from_none ad N c4 X w4 (errs_of HE4.out) HBAD.out (by omega)).mono ?_
    rintro x w5 ⟨rfl, H5⟩
    have HB5 : Hid (Below w.heap.size w w5) := Lib.hid (HB4.out.trans (H5.out.mono HB4.out.size))
    have c0' := (errs_of (HE.out.below HE.out.lt HB5.out)).cell 0 (by omega)
    go_wp2_with fail
    go_ret
    exact ⟨rfl, HB5.out⟩
  · subst h64
    go_enter Tryd.func3, Tryd.ntmps3
    go_wp2_with fail
    with_reducible refine (alive_any ad w (errs_of HE.out) h18').mono ?_
    rintro x w1 ⟨rfl, H1⟩
    have HE1 := Lib.hid (HE.out.below HE.out.lt H1.out)
    go_wp2_with fail
    with_reducible refine (new_none ad z0 w1 (errs_of HE1.out) hz.out).mono ?_
    rintro x w2 ⟨rfl, H2⟩
    have HB2 : Hid (Below w.heap.size w w2) := Lib.hid (H1.out.trans (H2.out.mono H1.out.size))
    have HE2 := Lib.hid (HE.out.below HE.out.lt HB2.out)
    have c0 := (errs_of HE2.out).cell 0 (by omega)
    have heq := fun w' => err_neq (ad 0) w'
    have heq2 := fun w' => err_same (ad 0) w'
    have HR2 := Lib.hid ((HR.out.below HB2.out).more HB2.out.size)
    go_wp2_with fail
    with_reducible refine (bytes_any 0 c A bs w2 HB.out (by omega) HR2.out).mono ?_
    rintro x w4 ⟨X, c4, rfl, H4⟩
    have HB4 : Hid (Below w.heap.size w w4) := Lib.hid (HB2.out.trans (H4.out.2.mono HB2.out.size))
    have HE4 := Lib.hid (HE.out.below HE.out.lt HB4.out)
    go_wp2_with fail
    with_reducible refine (from_none ad 0 c4 X w4 (errs_of HE4.out) zero_bad (by omega)).mono ?_
    rintro x w5 ⟨rfl, H5⟩
    have HB5 : Hid (Below w.heap.size w w5) := Lib.hid (HB4.out.trans (H5.out.mono HB4.out.size))
    have c0' := (errs_of (HE.out.below HE.out.lt HB5.out)).cell 0 (by omega)
    go_wp2_with fail
    go_ret
    exact ⟨rfl, HB5.out⟩
  · have hq1 : ((N : Int).tmod 64) = 0 := by rw [Int.tmod_eq_emod_of_nonneg (by omega)]; omega
    have hq2 : ((N : Int) % 64) = 0 := by omega
    have hq3 : ((N : Int) == 0) = false := by simp; omega
    have hq5 : (262144 : Int) < (N : Int) := by omega
    go_enter Tryd.func3, Tryd.ntmps3
    go_wp2_with fail
    with_reducible refine (alive_any ad w (errs_of HE.out) h18').mono ?_
    rintro x w1 ⟨rfl, H1⟩
    have HE1 := Lib.hid (HE.out.below HE.out.lt H1.out)
    go_wp2_with fail
    with_reducible refine (new_none ad z0 w1 (errs_of HE1.out) hz.out).mono ?_
    rintro x w2 ⟨rfl, H2⟩
    have HB2 : Hid (Below w.heap.size w w2) := Lib.hid (H1.out.trans (H2.out.mono H1.out.size))
    have HE2 := Lib.hid (HE.out.below HE.out.lt HB2.out)
    have c0 := (errs_of HE2.out).cell 0 (by omega)
    have heq := fun w' => err_neq (ad 0) w'
    have heq2 := fun w' => err_same (ad 0) w'
    have HR2 := Lib.hid ((HR.out.below HB2.out).more HB2.out.size)
    go_wp2_with fail
    with_reducible refine (bytes_any N c A bs w2 HB.out (by omega) HR2.out).mono ?_
    rintro x w4 ⟨X, c4, rfl, H4⟩
    have HB4 : Hid (Below w.heap.size w w4) := Lib.hid (HB2.out.trans (H4.out.2.mono HB2.out.size))
    have HE4 := Lib.hid (HE.out.below HE.out.lt HB4.out)
    go_wp2_with fail
    with_reducible refine (from_none ad N c4 X w4 (errs_of HE4.out) HBAD.out (by omega)).mono ?_
    rintro x w5 ⟨rfl, H5⟩
    have HB5 : Hid (Below w.heap.size w w5) := Lib.hid (HB4.out.trans (H5.out.mono HB4.out.size))
    have c0' := (errs_of (HE.out.below HE.out.lt HB5.out)).cell 0 (by omega)
    go_wp2_with fail
    go_ret
    exact ⟨rfl, HB5.out⟩
set_option maxHeartbeats 4000000 in
set_option maxRecDepth 100000 in
theorem plays_long2 (ad : Nat → Addr) (z0 : Int) (N : Nat) (A : Option Addr) (c : Nat) (v2 : Value) (w : World) (hE : Eighteen w ad) (hz1 : 4096 < z0) (hN : 262400 < N) :
    Calls Tryd.prog 3 #[.int .i64 z0, .slice A N c, v2] w fun e w' => e = .returned (.bool true) ∧ Below w.heap.size w w' := by
  have HE := Lib.hid hE
  have h18 := hE.size
  have h18' : 2 ≤ w.heap.size := by omega
  have hNI : (262400 : Int) < (N : Int) := by omega
  have hz := Lib.hid (show z0 < 1 ∨ 4096 < z0 from .inr hz1)
  have hdz : decide (z0 < 1) = false := by simp; omega
  have hdz2 : decide (4096 < z0) = true := by simpa using hz1
  clear hE
  go_enter Tryd.func3, Tryd.ntmps3
  go_wp2_with fail
  with_reducible refine (alive_any ad w (errs_of HE.out) h18').mono ?_
  rintro x w1 ⟨rfl, H1⟩
  have HE1 := Lib.hid (HE.out.below HE.out.lt H1.out)
  go_wp2_with fail
  with_reducible refine (new_none ad z0 w1 (errs_of HE1.out) hz.out).mono ?_
  rintro x w2 ⟨rfl, H2⟩
  have HB2 : Hid (Below w.heap.size w w2) := Lib.hid (H1.out.trans (H2.out.mono H1.out.size))
  have HE2 := Lib.hid (HE.out.below HE.out.lt HB2.out)
  have c0 := (errs_of HE2.out).cell 0 (by omega)
  have heq := fun w' => err_neq (ad 0) w'
  have heq2 := fun w' => err_same (ad 0) w'
  go_wp2_with fail
  go_ret
  exact ⟨rfl, HB2.out⟩
set_option maxHeartbeats 4000000 in
set_option maxRecDepth 100000 in
theorem plays_bad2 (ad : Nat → Addr) (z0 : Int) (N : Nat) (A : Option Addr) (c : Nat) (bs : List UInt8) (v2 : Value) (w : World) (hE : Eighteen w ad) (hz1 : 4096 < z0) (hN : N ≤ 262400) (hbad : N % 64 ≠ 0 ∨ N = 0 ∨ 262144 < N) (hb : bs.length = N) (hr : Rd w w.heap.size A (bs.map bv)) :
    Calls Tryd.prog 3 #[.int .i64 z0, .slice A N c, v2] w fun e w' => e = .returned (.bool true) ∧ Below w.heap.size w w' := by
  have HE := Lib.hid hE
  have HB := Lib.hid hb
  have HR := Lib.hid hr
  have HBAD := Lib.hid hbad
  have h18 := hE.size
  have h18' : 2 ≤ w.heap.size := by omega
  have hNI : ¬ (262400 : Int) < (N : Int) := by omega
  have hz := Lib.hid (show z0 < 1 ∨ 4096 < z0 from .inr hz1)
  have hdz : decide (z0 < 1) = false := by simp; omega
  have hdz2 : decide (4096 < z0) = true := by simpa using hz1
  clear hE hb hr
  rcases (show (N % 64 ≠ 0) ∨ (N = 0) ∨ (N % 64 = 0 ∧ N ≠ 0 ∧ 262144 < N) by omega) with h64 | h64 | h64
  · have hq1 : ((N : Int).tmod 64 == 0) = false := by rw [Int.tmod_eq_emod_of_nonneg (by omega)]; simp; omega
    have hq2 : ((N : Int) % 64 == 0) = false := by simp; omega
    go_enter Tryd.func3, Tryd.ntmps3
    go_wp2_with fail
    with_reducible refine (alive_any ad w (errs_of HE.out) h18').mono ?_
    rintro x w1 ⟨rfl, H1⟩
    have HE1 := Lib.hid (HE.out.below HE.out.lt H1.out)
    go_wp2_with fail
    with_reducible refine (new_none ad z0 w1 (errs_of HE1.out) hz.out).mono ?_
    rintro x w2 ⟨rfl, H2⟩
    have HB2 : Hid (Below w.heap.size w w2) := Lib.hid (H1.out.trans (H2.out.mono H1.out.size))
    have HE2 := Lib.hid (HE.out.below HE.out.lt HB2.out)
    have c0 := (errs_of HE2.out).cell 0 (by omega)
    have heq := fun w' => err_neq (ad 0) w'
    have heq2 := fun w' => err_same (ad 0) w'
    have HR2 := Lib.hid ((HR.out.below HB2.out).more HB2.out.size)
    go_wp2_with fail
    with_reducible refine (bytes_any N c A bs w2 HB.out (by omega) HR2.out).mono ?_
    rintro x w4 ⟨X, c4, rfl, H4⟩
    have HB4 : Hid (Below w.heap.size w w4) := Lib.hid (HB2.out.trans (H4.out.2.mono HB2.out.size))
    have HE4 := Lib.hid (HE.out.below HE.out.lt HB4.out)
    go_wp2_with fail
    with_reducible refine (from_none ad N c4 X w4 (errs_of HE4.out) HBAD.out (by omega)).mono ?_
    rintro x w5 ⟨rfl, H5⟩
    have HB5 : Hid (Below w.heap.size w w5) := Lib.hid (HB4.out.trans (H5.out.mono HB4.out.size))
    have c0' := (errs_of (HE.out.below HE.out.lt HB5.out)).cell 0 (by omega)
    go_wp2_with fail
    go_ret
    exact ⟨rfl, HB5.out⟩
  · subst h64
    go_enter Tryd.func3, Tryd.ntmps3
    go_wp2_with fail
    with_reducible refine (alive_any ad w (errs_of HE.out) h18').mono ?_
    rintro x w1 ⟨rfl, H1⟩
    have HE1 := Lib.hid (HE.out.below HE.out.lt H1.out)
    go_wp2_with fail
    with_reducible refine (new_none ad z0 w1 (errs_of HE1.out) hz.out).mono ?_
    rintro x w2 ⟨rfl, H2⟩
    have HB2 : Hid (Below w.heap.size w w2) := Lib.hid (H1.out.trans (H2.out.mono H1.out.size))
    have HE2 := Lib.hid (HE.out.below HE.out.lt HB2.out)
    have c0 := (errs_of HE2.out).cell 0 (by omega)
    have heq := fun w' => err_neq (ad 0) w'
    have heq2 := fun w' => err_same (ad 0) w'
    have HR2 := Lib.hid ((HR.out.below HB2.out).more HB2.out.size)
    go_wp2_with fail
    with_reducible refine (bytes_any 0 c A bs w2 HB.out (by omega) HR2.out).mono ?_
    rintro x w4 ⟨X, c4, rfl, H4⟩
    have HB4 : Hid (Below w.heap.size w w4) := Lib.hid (HB2.out.trans (H4.out.2.mono HB2.out.size))
    have HE4 := Lib.hid (HE.out.below HE.out.lt HB4.out)
    go_wp2_with fail
    with_reducible refine (from_none ad 0 c4 X w4 (errs_of HE4.out) zero_bad (by omega)).mono ?_
    rintro x w5 ⟨rfl, H5⟩
    have HB5 : Hid (Below w.heap.size w w5) := Lib.hid (HB4.out.trans (H5.out.mono HB4.out.size))
    have c0' := (errs_of (HE.out.below HE.out.lt HB5.out)).cell 0 (by omega)
    go_wp2_with fail
    go_ret
    exact ⟨rfl, HB5.out⟩
  · have hq1 : ((N : Int).tmod 64) = 0 := by rw [Int.tmod_eq_emod_of_nonneg (by omega)]; omega
    have hq2 : ((N : Int) % 64) = 0 := by omega
    have hq3 : ((N : Int) == 0) = false := by simp; omega
    have hq5 : (262144 : Int) < (N : Int) := by omega
    go_enter Tryd.func3, Tryd.ntmps3
    go_wp2_with fail
    with_reducible refine (alive_any ad w (errs_of HE.out) h18').mono ?_
    rintro x w1 ⟨rfl, H1⟩
    have HE1 := Lib.hid (HE.out.below HE.out.lt H1.out)
    go_wp2_with fail
    with_reducible refine (new_none ad z0 w1 (errs_of HE1.out) hz.out).mono ?_
    rintro x w2 ⟨rfl, H2⟩
    have HB2 : Hid (Below w.heap.size w w2) := Lib.hid (H1.out.trans (H2.out.mono H1.out.size))
    have HE2 := Lib.hid (HE.out.below HE.out.lt HB2.out)
    have c0 := (errs_of HE2.out).cell 0 (by omega)
    have heq := fun w' => err_neq (ad 0) w'
    have heq2 := fun w' => err_same (ad 0) w'
    have HR2 := Lib.hid ((HR.out.below HB2.out).more HB2.out.size)
    go_wp2_with fail
    with_reducible refine (bytes_any N c A bs w2 HB.out (by omega) HR2.out).mono ?_
    rintro x w4 ⟨X, c4, rfl, H4⟩
    have HB4 : Hid (Below w.heap.size w w4) := Lib.hid (HB2.out.trans (H4.out.2.mono HB2.out.size))
    have HE4 := Lib.hid (HE.out.below HE.out.lt HB4.out)
    go_wp2_with fail
    with_reducible refine (from_none ad N c4 X w4 (errs_of HE4.out) HBAD.out (by omega)).mono ?_
    rintro x w5 ⟨rfl, H5⟩
    have HB5 : Hid (Below w.heap.size w w5) := Lib.hid (HB4.out.trans (H5.out.mono HB4.out.size))
    have c0' := (errs_of (HE.out.below HE.out.lt HB5.out)).cell 0 (by omega)
    go_wp2_with fail
    go_ret
    exact ⟨rfl, HB5.out⟩
set_option maxHeartbeats 4000000 in
set_option maxRecDepth 100000 in
theorem plays_long3 (ad : Nat → Addr) (m : Nat) (N : Nat) (A : Option Addr) (c : Nat) (v2 : Value) (w : World) (hE : Eighteen w ad) (hm1 : 1 ≤ m) (hm2 : m ≤ 4096) (hN : 262400 < N) :
    Calls Tryd.prog 3 #[.int .i64 (m : Int), .slice A N c, v2] w fun e w' => e = .returned (.bool true) ∧ Below w.heap.size w w' := by
  have HE := Lib.hid hE
  have h18 := hE.size
  have h18' : 2 ≤ w.heap.size := by omega
  have hNI : (262400 : Int) < (N : Int) := by omega
  have hdz : decide ((m : Int) < 1) = false := by simp; omega
  have hdz2 : decide (4096 < (m : Int)) = false := by simp; omega
  clear hE
  go_enter Tryd.func3, Tryd.ntmps3
  go_wp2_with fail
  with_reducible refine (alive_any ad w (errs_of HE.out) h18').mono ?_
  rintro x w1 ⟨rfl, H1⟩
  have HE1 := Lib.hid (HE.out.below HE.out.lt H1.out)
  go_wp2_with fail
  with_reducible refine (new_ok m _ w1 rfl hm1 hm2).mono ?_
  rintro x w2 ⟨rfl, H2⟩
  have HB2 : Hid (Below w.heap.size w w2) := Lib.hid (H1.out.trans (H2.out.2.1.mono H1.out.size))
  have HE2 := Lib.hid (HE.out.below HE.out.lt HB2.out)
  have c0 := (errs_of HE2.out).cell 0 (by omega)
  have heq2 := fun w' => err_same (ad 0) w'
  go_wp2_with fail
  with_reducible refine (blocks_n (w1.heap.size + 1) w1.heap.size m (fresh m) w2 H2.out.1 rfl).mono ?_
  rintro x w3 ⟨rfl, rfl⟩
  go_wp2_with fail
  with_reducible refine (q_off (w1.heap.size + 1) w1.heap.size false (fresh m) w2 H2.out.1 rfl).mono ?_
  rintro x w3 ⟨rfl, rfl⟩
  go_wp2_with fail
  go_ret
  exact ⟨rfl, HB2.out⟩
set_option maxHeartbeats 4000000 in
set_option maxRecDepth 100000 in
theorem plays_bad3 (ad : Nat → Addr) (m : Nat) (N : Nat) (A : Option Addr) (c : Nat) (bs : List UInt8) (v2 : Value) (w : World) (hE : Eighteen w ad) (hm1 : 1 ≤ m) (hm2 : m ≤ 4096) (hN : N ≤ 262400) (hbad : N % 64 ≠ 0 ∨ N = 0 ∨ 262144 < N) (hb : bs.length = N) (hr : Rd w w.heap.size A (bs.map bv)) :
    Calls Tryd.prog 3 #[.int .i64 (m : Int), .slice A N c, v2] w fun e w' => e = .returned (.bool true) ∧ Below w.heap.size w w' := by
  have HE := Lib.hid hE
  have HB := Lib.hid hb
  have HR := Lib.hid hr
  have HBAD := Lib.hid hbad
  have h18 := hE.size
  have h18' : 2 ≤ w.heap.size := by omega
  have hNI : ¬ (262400 : Int) < (N : Int) := by omega
  have hdz : decide ((m : Int) < 1) = false := by simp; omega
  have hdz2 : decide (4096 < (m : Int)) = false := by simp; omega
  clear hE hb hr
  rcases (show (N % 64 ≠ 0) ∨ (N = 0) ∨ (N % 64 = 0 ∧ N ≠ 0 ∧ 262144 < N) by omega) with h64 | h64 | h64
  · have hq1 : ((N : Int).tmod 64 == 0) = false := by rw [Int.tmod_eq_emod_of_nonneg (by omega)]; simp; omega
    have hq2 : ((N : Int) % 64 == 0) = false := by simp; omega
    go_enter Tryd.func3, Tryd.ntmps3
    go_wp2_with fail
    with_reducible refine (alive_any ad w (errs_of HE.out) h18').mono ?_
    rintro x w1 ⟨rfl, H1⟩
    have HE1 := Lib.hid (HE.out.below HE.out.lt H1.out)
    go_wp2_with fail
    with_reducible refine (new_ok m _ w1 rfl hm1 hm2).mono ?_
    rintro x w2 ⟨rfl, H2⟩
    have HB2 : Hid (Below w.heap.size w w2) := Lib.hid (H1.out.trans (H2.out.2.1.mono H1.out.size))
    have HE2 := Lib.hid (HE.out.below HE.out.lt HB2.out)
    have c0 := (errs_of HE2.out).cell 0 (by omega)
    have heq2 := fun w' => err_same (ad 0) w'
    go_wp2_with fail
    with_reducible refine (blocks_n (w1.heap.size + 1) w1.heap.size m (fresh m) w2 H2.out.1 rfl).mono ?_
    rintro x w3 ⟨rfl, rfl⟩
    go_wp2_with fail
    with_reducible refine (q_off (w1.heap.size + 1) w1.heap.size false (fresh m) w2 H2.out.1 rfl).mono ?_
    rintro x w3 ⟨rfl, rfl⟩
    have HR2 := Lib.hid ((HR.out.below HB2.out).more HB2.out.size)
    go_wp2_with fail
    with_reducible refine (bytes_any N c A bs w2 HB.out (by omega) HR2.out).mono ?_
    rintro x w4 ⟨X, c4, rfl, H4⟩
    have HB4 : Hid (Below w.heap.size w w4) := Lib.hid (HB2.out.trans (H4.out.2.mono HB2.out.size))
    have HE4 := Lib.hid (HE.out.below HE.out.lt HB4.out)
    go_wp2_with fail
    with_reducible refine (from_none ad N c4 X w4 (errs_of HE4.out) HBAD.out (by omega)).mono ?_
    rintro x w5 ⟨rfl, H5⟩
    have HB5 : Hid (Below w.heap.size w w5) := Lib.hid (HB4.out.trans (H5.out.mono HB4.out.size))
    have c0' := (errs_of (HE.out.below HE.out.lt HB5.out)).cell 0 (by omega)
    go_wp2_with fail
    go_ret
    exact ⟨rfl, HB5.out⟩
  · subst h64
    go_enter Tryd.func3, Tryd.ntmps3
    go_wp2_with fail
    with_reducible refine (alive_any ad w (errs_of HE.out) h18').mono ?_
    rintro x w1 ⟨rfl, H1⟩
    have HE1 := Lib.hid (HE.out.below HE.out.lt H1.out)
    go_wp2_with fail
    with_reducible refine (new_ok m _ w1 rfl hm1 hm2).mono ?_
    rintro x w2 ⟨rfl, H2⟩
    have HB2 : Hid (Below w.heap.size w w2) := Lib.hid (H1.out.trans (H2.out.2.1.mono H1.out.size))
    have HE2 := Lib.hid (HE.out.below HE.out.lt HB2.out)
    have c0 := (errs_of HE2.out).cell 0 (by omega)
    have heq2 := fun w' => err_same (ad 0) w'
    go_wp2_with fail
    with_reducible refine (blocks_n (w1.heap.size + 1) w1.heap.size m (fresh m) w2 H2.out.1 rfl).mono ?_
    rintro x w3 ⟨rfl, rfl⟩
    go_wp2_with fail
    with_reducible refine (q_off (w1.heap.size + 1) w1.heap.size false (fresh m) w2 H2.out.1 rfl).mono ?_
    rintro x w3 ⟨rfl, rfl⟩
    have HR2 := Lib.hid ((HR.out.below HB2.out).more HB2.out.size)
    go_wp2_with fail
    with_reducible refine (bytes_any 0 c A bs w2 HB.out (by omega) HR2.out).mono ?_
    rintro x w4 ⟨X, c4, rfl, H4⟩
    have HB4 : Hid (Below w.heap.size w w4) := Lib.hid (HB2.out.trans (H4.out.2.mono HB2.out.size))
    have HE4 := Lib.hid (HE.out.below HE.out.lt HB4.out)
    go_wp2_with fail
    with_reducible refine (from_none ad 0 c4 X w4 (errs_of HE4.out) zero_bad (by omega)).mono ?_
    rintro x w5 ⟨rfl, H5⟩
    have HB5 : Hid (Below w.heap.size w w5) := Lib.hid (HB4.out.trans (H5.out.mono HB4.out.size))
    have c0' := (errs_of (HE.out.below HE.out.lt HB5.out)).cell 0 (by omega)
    go_wp2_with fail
    go_ret
    exact ⟨rfl, HB5.out⟩
  · have hq1 : ((N : Int).tmod 64) = 0 := by rw [Int.tmod_eq_emod_of_nonneg (by omega)]; omega
    have hq2 : ((N : Int) % 64) = 0 := by omega
    have hq3 : ((N : Int) == 0) = false := by simp; omega
    have hq5 : (262144 : Int) < (N : Int) := by omega
    go_enter Tryd.func3, Tryd.ntmps3
    go_wp2_with fail
    with_reducible refine (alive_any ad w (errs_of HE.out) h18').mono ?_
    rintro x w1 ⟨rfl, H1⟩
    have HE1 := Lib.hid (HE.out.below HE.out.lt H1.out)
    go_wp2_with fail
    with_reducible refine (new_ok m _ w1 rfl hm1 hm2).mono ?_
    rintro x w2 ⟨rfl, H2⟩
    have HB2 : Hid (Below w.heap.size w w2) := Lib.hid (H1.out.trans (H2.out.2.1.mono H1.out.size))
    have HE2 := Lib.hid (HE.out.below HE.out.lt HB2.out)
    have c0 := (errs_of HE2.out).cell 0 (by omega)
    have heq2 := fun w' => err_same (ad 0) w'
    go_wp2_with fail
    with_reducible refine (blocks_n (w1.heap.size + 1) w1.heap.size m (fresh m) w2 H2.out.1 rfl).mono ?_
    rintro x w3 ⟨rfl, rfl⟩
    go_wp2_with fail
    with_reducible refine (q_off (w1.heap.size + 1) w1.heap.size false (fresh m) w2 H2.out.1 rfl).mono ?_
    rintro x w3 ⟨rfl, rfl⟩
    have HR2 := Lib.hid ((HR.out.below HB2.out).more HB2.out.size)
    go_wp2_with fail
    with_reducible refine (bytes_any N c A bs w2 HB.out (by omega) HR2.out).mono ?_
    rintro x w4 ⟨X, c4, rfl, H4⟩
    have HB4 : Hid (Below w.heap.size w w4) := Lib.hid (HB2.out.trans (H4.out.2.mono HB2.out.size))
    have HE4 := Lib.hid (HE.out.below HE.out.lt HB4.out)
    go_wp2_with fail
    with_reducible refine (from_none ad N c4 X w4 (errs_of HE4.out) HBAD.out (by omega)).mono ?_
    rintro x w5 ⟨rfl, H5⟩
    have HB5 : Hid (Below w.heap.size w w5) := Lib.hid (HB4.out.trans (H5.out.mono HB4.out.size))
    have c0' := (errs_of (HE.out.below HE.out.lt HB5.out)).cell 0 (by omega)
    go_wp2_with fail
    go_ret
    exact ⟨rfl, HB5.out⟩
end Go.Proofs.YtadhgdjgpanddaaDoor
