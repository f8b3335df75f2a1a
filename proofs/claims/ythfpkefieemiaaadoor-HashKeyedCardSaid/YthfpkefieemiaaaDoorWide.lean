/- The reference's wide, atMost and root. -/
import Derived.Test.YthfpkefieemiaaaDoorRefs
import Derived.Test.YthfpkefieemiaaaDoorRoots
namespace Go.Proofs.YthfpkefieemiaaaDoor
open Go.RowKit

theorem and_low (n : Nat) (h : n < 18446744073709551616) : bits .and .u64 (n : Int) 4294967295 = ((n % 4294967296 : Nat) : Int) := by
  rw [show (4294967295 : Int) = ((4294967295 : Nat) : Int) from rfl, u64_and_nat _ _ h (by decide), show (4294967295 : Nat) = 2 ^ 32 - 1 from rfl, Nat.and_two_pow_sub_one_eq_mod]

set_option maxHeartbeats 1000000 in
theorem wide_any (a b : Nat) (w : World) (ha : a < 18446744073709551616) (hb : b < 18446744073709551616) :
    Calls Tryd.prog 38 #[.int .u64 (a : Int), .int .u64 (b : Int)] w fun e w' => e = .returned (.tuple #[.int .u64 ((wideS a b).1 : Int), .int .u64 ((wideS a b).2 : Int)]) ∧ w = w' := by
  obtain ⟨r, HR⟩ : ∃ r, Shut (wideS a b = r) := ⟨_, ⟨rfl⟩⟩
  rw [HR.out]
  have q1 := and_low a ha
  have q2 := and_low b hb
  have q3 : (a : Int) / 4294967296 = ((a / 4294967296 : Nat) : Int) := by omega
  have q4 : (b : Int) / 4294967296 = ((b / 4294967296 : Nat) : Int) := by omega
  obtain ⟨A0, HA0⟩ : ∃ A0, Shut (a % 4294967296 = A0) := ⟨_, ⟨rfl⟩⟩
  obtain ⟨A1, HA1⟩ : ∃ A1, Shut (a / 4294967296 = A1) := ⟨_, ⟨rfl⟩⟩
  obtain ⟨B0, HB0⟩ : ∃ B0, Shut (b % 4294967296 = B0) := ⟨_, ⟨rfl⟩⟩
  obtain ⟨B1, HB1⟩ : ∃ B1, Shut (b / 4294967296 = B1) := ⟨_, ⟨rfl⟩⟩
  have a0 : A0 ≤ 4294967295 := by rw [← HA0.out]; omega
  have a1 : A1 ≤ 4294967295 := by rw [← HA1.out]; omega
  have b0 : B0 ≤ 4294967295 := by rw [← HB0.out]; omega
  have b1 : B1 ≤ 4294967295 := by rw [← HB1.out]; omega
  have m1 : A0 * B0 ≤ 18446744065119617025 := Nat.mul_le_mul a0 b0
  have m2 : A0 * B1 ≤ 18446744065119617025 := Nat.mul_le_mul a0 b1
  have m3 : A1 * B0 ≤ 18446744065119617025 := Nat.mul_le_mul a1 b0
  have m4 : A1 * B1 ≤ 18446744065119617025 := Nat.mul_le_mul a1 b1
  rw [HA0.out] at q1
  rw [HB0.out] at q2
  rw [HA1.out] at q3
  rw [HB1.out] at q4
  obtain ⟨LL, hLL⟩ : ∃ x, x = A0 * B0 := ⟨_, rfl⟩
  obtain ⟨LH, hLH⟩ : ∃ x, x = A0 * B1 := ⟨_, rfl⟩
  obtain ⟨HL, hHL⟩ : ∃ x, x = A1 * B0 := ⟨_, rfl⟩
  obtain ⟨HH, hHH⟩ : ∃ x, x = A1 * B1 := ⟨_, rfl⟩
  rw [← hLL] at m1
  rw [← hLH] at m2
  rw [← hHL] at m3
  rw [← hHH] at m4
  have c1 : IntKind.u64.wrap ((A0 : Int) * (B0 : Int)) = (LL : Int) := by rw [IntKind.wrap_u64, ← Int.natCast_mul, ← hLL]; omega
  have c2 : IntKind.u64.wrap ((A0 : Int) * (B1 : Int)) = (LH : Int) := by rw [IntKind.wrap_u64, ← Int.natCast_mul, ← hLH]; omega
  have c3 : IntKind.u64.wrap ((A1 : Int) * (B0 : Int)) = (HL : Int) := by rw [IntKind.wrap_u64, ← Int.natCast_mul, ← hHL]; omega
  have c4 : IntKind.u64.wrap ((A1 : Int) * (B1 : Int)) = (HH : Int) := by rw [IntKind.wrap_u64, ← Int.natCast_mul, ← hHH]; omega
  have d1 : ((A0 : Int) * (B0 : Int)) % 18446744073709551616 = (LL : Int) := by rw [← Int.natCast_mul, ← hLL]; omega
  have d2 : ((A0 : Int) * (B1 : Int)) % 18446744073709551616 = (LH : Int) := by rw [← Int.natCast_mul, ← hLH]; omega
  have d3 : ((A1 : Int) * (B0 : Int)) % 18446744073709551616 = (HL : Int) := by rw [← Int.natCast_mul, ← hHL]; omega
  have d4 : ((A1 : Int) * (B1 : Int)) % 18446744073709551616 = (HH : Int) := by rw [← Int.natCast_mul, ← hHH]; omega
  have e1 := and_low LL (by omega)
  have e2 := and_low LH (by omega)
  have e3 := and_low HL (by omega)
  have HRS : Shut (r = ((HH + LH / 4294967296 + HL / 4294967296 + (LL / 4294967296 + LH % 4294967296 + HL % 4294967296) / 4294967296) % 18446744073709551616, ((LL / 4294967296 + LH % 4294967296 + HL % 4294967296) * 4294967296 % 18446744073709551616) ||| (LL % 4294967296))) := ⟨by
    rw [← HR.out]
    unfold wideS
    simp only [HA0.out, HA1.out, HB0.out, HB1.out, ← hLL, ← hLH, ← hHL, ← hHH]⟩
  clear hLL hLH hHL hHH
  go_enter Tryd.func38, Tryd.ntmps38
  go_wp2_with fail
  go_ret2
  refine ⟨?_, rfl⟩
  have f1 : (HH : Int) + (LH : Int) / 4294967296 + (HL : Int) / 4294967296 + ((LL : Int) / 4294967296 + (LH : Int) % 4294967296 + (HL : Int) % 4294967296) / 4294967296 = (r.1 : Int) := by
    rw [HRS.out]
    simp only
    omega
  have f2 : bits .or .u64 (IntKind.u64.wrap (((LL : Int) / 4294967296 + (LH : Int) % 4294967296 + (HL : Int) % 4294967296) * 4294967296)) ((LL : Int) % 4294967296) = (r.2 : Int) := by
    rw [HRS.out]
    simp only
    have g1 : IntKind.u64.wrap (((LL : Int) / 4294967296 + (LH : Int) % 4294967296 + (HL : Int) % 4294967296) * 4294967296) = (((LL / 4294967296 + LH % 4294967296 + HL % 4294967296) * 4294967296 % 18446744073709551616 : Nat) : Int) := by
      rw [IntKind.wrap_u64]; omega
    have g2 : (LL : Int) % 4294967296 = ((LL % 4294967296 : Nat) : Int) := by omega
    rw [g1, g2, u64_or_nat _ _ (by omega) (by omega)]
  rw [f1, f2]
  rfl

theorem wideS_lt (a b : Nat) : (wideS a b).1 < 18446744073709551616 ∧ (wideS a b).2 < 18446744073709551616 := by
  unfold wideS
  simp only
  refine ⟨Nat.mod_lt _ (by decide), ?_⟩
  exact Nat.or_lt_two_pow (n := 64) (Nat.mod_lt _ (by decide)) (Nat.lt_of_lt_of_le (Nat.mod_lt _ (by decide)) (by decide))

set_option maxHeartbeats 1000000 in
theorem atMost_any (r p : Nat) (two : Bool) (z : Int) (w : World) (hr : r < 18446744073709551616) (hp : p < 4294967296) (hz : z = if two then 2 else 3) :
    Calls Tryd.prog 35 #[.int .u64 (r : Int), .int .u64 (p : Int), .int .i64 z] w fun e w' => e = .returned (.bool (atMostS r p two)) ∧ w = w' := by
  obtain ⟨hi, HHI⟩ : ∃ x, Shut ((wideS r r).1 = x) := ⟨_, ⟨rfl⟩⟩
  obtain ⟨lo, HLO⟩ : ∃ x, Shut ((wideS r r).2 = x) := ⟨_, ⟨rfl⟩⟩
  have hhi : hi < 18446744073709551616 := by rw [← HHI.out]; exact (wideS_lt r r).1
  have hlo : lo < 18446744073709551616 := by rw [← HLO.out]; exact (wideS_lt r r).2
  obtain ⟨h1, HH1⟩ : ∃ x, Shut ((wideS lo r).1 = x) := ⟨_, ⟨rfl⟩⟩
  obtain ⟨l1, HL1⟩ : ∃ x, Shut ((wideS lo r).2 = x) := ⟨_, ⟨rfl⟩⟩
  have hh1 : h1 < 18446744073709551616 := by rw [← HH1.out]; exact (wideS_lt lo r).1
  have hl1 : l1 < 18446744073709551616 := by rw [← HL1.out]; exact (wideS_lt lo r).2
  obtain ⟨g2, HG2⟩ : ∃ x, Shut ((wideS hi r).1 = x) := ⟨_, ⟨rfl⟩⟩
  obtain ⟨h2, HH2⟩ : ∃ x, Shut ((wideS hi r).2 = x) := ⟨_, ⟨rfl⟩⟩
  have hh2 : h2 < 18446744073709551616 := by rw [← HH2.out]; exact (wideS_lt hi r).2
  obtain ⟨top, HTOP⟩ : ∃ x, Shut ((h2 + h1) % 18446744073709551616 = x) := ⟨_, ⟨rfl⟩⟩
  obtain ⟨res, HRES⟩ : ∃ x, Shut (atMostS r p two = x) := ⟨_, ⟨rfl⟩⟩
  have HRS := HRES.out
  unfold atMostS at HRS
  simp only [HHI.out, HLO.out, HH1.out, HL1.out, HH2.out, HTOP.out] at HRS
  rw [HRES.out]
  have HR9 : Shut ((if two = true then (decide (hi < p) || (decide (hi = p) && decide (lo = 0))) else if top < h2 then false else (decide (top < p * 4294967296 % 18446744073709551616) || (decide (top = p * 4294967296 % 18446744073709551616) && decide (l1 = 0)))) = res) := ⟨HRS⟩
  clear HRS
  have HW1 := Lib.hid (fun w => wide_any r r w hr hr)
  have HW2 := Lib.hid (fun w => wide_any lo r w hlo hr)
  have HW3 := Lib.hid (fun w => wide_any hi r w hhi hr)
  rw [HHI.out, HLO.out] at HW1
  rw [HH1.out, HL1.out] at HW2
  rw [HG2.out, HH2.out] at HW3
  cases two with
  | true =>
    obtain rfl : z = 2 := hz
    have h9 := HR9.out
    simp only [if_true] at h9
    by_cases c1 : hi < p
    · have hres : Hid (res = true) := Lib.hid (by rw [← h9]; simp [c1])
      clear h9 HR9
      go_enter Tryd.func35, Tryd.ntmps35
      go_wp2_with fail
      with_reducible refine (HW1.out w).mono ?_
      rintro e w' ⟨rfl, rfl⟩
      go_wp2_with fail
      go_ret
      exact ⟨ret_bool (by rw [hres.out]), rfl⟩
    · by_cases c2 : hi = p
      · have b2 : ((hi : Int) == (p : Int)) = true := by simp; omega
        by_cases c3 : lo = 0
        · have hres : Hid (res = true) := Lib.hid (by rw [← h9]; simp [c2, c3])
          have b3 : ((lo : Int) == 0) = true := by simp; omega
          have C2 := Lib.hid c2
          have C3 := Lib.hid c3
          clear h9 HR9 c2 c3
          go_enter Tryd.func35, Tryd.ntmps35
          go_wp2_with fail
          with_reducible refine (HW1.out w).mono ?_
          rintro e w' ⟨rfl, rfl⟩
          go_wp2_with fail
          go_ret
          exact ⟨ret_bool (by rw [hres.out]), rfl⟩
        · have hres : Hid (res = false) := Lib.hid (by rw [← h9]; simp [c2, c3])
          have b3 : ((lo : Int) == 0) = false := by simp; omega
          have C2 := Lib.hid c2
          have C3 := Lib.hid c3
          clear h9 HR9 c2 c3
          go_enter Tryd.func35, Tryd.ntmps35
          go_wp2_with fail
          with_reducible refine (HW1.out w).mono ?_
          rintro e w' ⟨rfl, rfl⟩
          go_wp2_with fail
          go_ret
          exact ⟨ret_bool (by rw [hres.out]), rfl⟩
      · have hres : Hid (res = false) := Lib.hid (by rw [← h9]; simp [c1, c2])
        have b2 : ((hi : Int) == (p : Int)) = false := by simp; omega
        clear h9 HR9
        go_enter Tryd.func35, Tryd.ntmps35
        go_wp2_with fail
        with_reducible refine (HW1.out w).mono ?_
        rintro e w' ⟨rfl, rfl⟩
        go_wp2_with fail
        go_ret
        exact ⟨ret_bool (by rw [hres.out]), rfl⟩
  | false =>
    obtain rfl : z = 3 := hz
    have h9 := HR9.out
    simp only [Bool.false_eq_true, if_false] at h9
    obtain ⟨P, HP⟩ : ∃ x, Shut (p * 4294967296 % 18446744073709551616 = x) := ⟨_, ⟨rfl⟩⟩
    rw [HP.out] at h9
    have ht : top < 18446744073709551616 := by rw [← HTOP.out]; omega
    have hP : P < 18446744073709551616 := by rw [← HP.out]; omega
    have s1 : IntKind.u64.wrap ((h2 : Int) + (h1 : Int)) = (top : Int) := by rw [IntKind.wrap_u64, ← HTOP.out]; omega
    have s2 : ((h2 : Int) + (h1 : Int)) % 18446744073709551616 = (top : Int) := by rw [← HTOP.out]; omega
    have s3 : IntKind.u64.wrap ((p : Int) * 4294967296) = (P : Int) := by rw [IntKind.wrap_u64, ← HP.out]; omega
    have s4 : ((p : Int) * 4294967296) % 18446744073709551616 = (P : Int) := by rw [← HP.out]; omega
    have S1 := Lib.hid (And.intro s1 (And.intro s2 (And.intro s3 s4)))
    by_cases c0 : top < h2
    · have hres : Hid (res = false) := Lib.hid (by rw [← h9]; simp [c0])
      clear h9 HR9
      go_enter Tryd.func35, Tryd.ntmps35
      go_wp2_with fail
      with_reducible refine (HW1.out w).mono ?_
      rintro e w' ⟨rfl, rfl⟩
      go_wp2_with fail
      with_reducible refine (HW2.out w).mono ?_
      rintro e w' ⟨rfl, rfl⟩
      go_wp2_with fail
      with_reducible refine (HW3.out w).mono ?_
      rintro e w' ⟨rfl, rfl⟩
      go_wp2_with fail
      go_ret
      exact ⟨ret_bool (by rw [hres.out]), rfl⟩
    · by_cases c1 : top < P
      · have hres : Hid (res = true) := Lib.hid (by rw [← h9]; simp [c0, c1])
        clear h9 HR9
        go_enter Tryd.func35, Tryd.ntmps35
        go_wp2_with fail
        with_reducible refine (HW1.out w).mono ?_
        rintro e w' ⟨rfl, rfl⟩
        go_wp2_with fail
        with_reducible refine (HW2.out w).mono ?_
        rintro e w' ⟨rfl, rfl⟩
        go_wp2_with fail
        with_reducible refine (HW3.out w).mono ?_
        rintro e w' ⟨rfl, rfl⟩
        go_wp2_with fail
        go_ret
        exact ⟨ret_bool (by rw [hres.out]), rfl⟩
      · by_cases c2 : top = P
        · have b2 : ((top : Int) == (P : Int)) = true := by simp; omega
          by_cases c3 : l1 = 0
          · have hres : Hid (res = true) := Lib.hid (by rw [← h9]; simp [c2, c3]; omega)
            have b3 : ((l1 : Int) == 0) = true := by simp; omega
            have C2 := Lib.hid c2
            have C3 := Lib.hid c3
            clear h9 HR9 c2 c3
            go_enter Tryd.func35, Tryd.ntmps35
            go_wp2_with fail
            with_reducible refine (HW1.out w).mono ?_
            rintro e w' ⟨rfl, rfl⟩
            go_wp2_with fail
            with_reducible refine (HW2.out w).mono ?_
            rintro e w' ⟨rfl, rfl⟩
            go_wp2_with fail
            with_reducible refine (HW3.out w).mono ?_
            rintro e w' ⟨rfl, rfl⟩
            go_wp2_with fail
            go_ret
            exact ⟨ret_bool (by rw [hres.out]), rfl⟩
          · have hres : Hid (res = false) := Lib.hid (by rw [← h9]; simp [c2, c3])
            have b3 : ((l1 : Int) == 0) = false := by simp; omega
            have C2 := Lib.hid c2
            have C3 := Lib.hid c3
            clear h9 HR9 c2 c3
            go_enter Tryd.func35, Tryd.ntmps35
            go_wp2_with fail
            with_reducible refine (HW1.out w).mono ?_
            rintro e w' ⟨rfl, rfl⟩
            go_wp2_with fail
            with_reducible refine (HW2.out w).mono ?_
            rintro e w' ⟨rfl, rfl⟩
            go_wp2_with fail
            with_reducible refine (HW3.out w).mono ?_
            rintro e w' ⟨rfl, rfl⟩
            go_wp2_with fail
            go_ret
            exact ⟨ret_bool (by rw [hres.out]), rfl⟩
        · have hres : Hid (res = false) := Lib.hid (by rw [← h9]; simp [c1, c2])
          have b2 : ((top : Int) == (P : Int)) = false := by simp; omega
          clear h9 HR9
          go_enter Tryd.func35, Tryd.ntmps35
          go_wp2_with fail
          with_reducible refine (HW1.out w).mono ?_
          rintro e w' ⟨rfl, rfl⟩
          go_wp2_with fail
          with_reducible refine (HW2.out w).mono ?_
          rintro e w' ⟨rfl, rfl⟩
          go_wp2_with fail
          with_reducible refine (HW3.out w).mono ?_
          rintro e w' ⟨rfl, rfl⟩
          go_wp2_with fail
          go_ret
          exact ⟨ret_bool (by rw [hres.out]), rfl⟩

theorem rootFrom_lt (p : Nat) (two : Bool) (k : Nat) : rootFrom p two k < 137438953472 := by
  induction k with
  | zero => simp [rootFrom]
  | succ k ih =>
    unfold rootFrom
    simp only
    split
    · exact Nat.or_lt_two_pow (n := 37) ih (Nat.pow_lt_pow_right (by decide) (by omega))
    · exact ih
theorem or_bit64 (a k : Nat) (ha : a < 137438953472) (hk : k ≤ 36) : bits .or .u64 (a : Int) (2 ^ k) = ((a ||| 2 ^ k : Nat) : Int) := by
  have h1 : (2 : Nat) ^ k < 18446744073709551616 := Nat.lt_of_lt_of_le (Nat.pow_lt_pow_right (by decide) (show k < 37 by omega)) (by decide)
  have e : ((2 : Int) ^ k) = ((2 ^ k : Nat) : Int) := by simp
  rw [e, u64_or_nat _ _ (by omega) h1]

set_option maxHeartbeats 1000000 in
theorem root_any (p : Nat) (two : Bool) (z : Int) (w : World) (hp : p < 4294967296) (hz : z = if two then 2 else 3) :
    Calls Tryd.prog 33 #[.int .u64 (p : Int), .int .i64 z] w fun e w' => e = .returned (.int .u32 (U (rootS p two))) ∧ w = w' := by
  have HZ := Lib.hid hz
  clear hz
  go_enter Tryd.func33, Tryd.ntmps33
  go_wp2_with fail
  go_loop [5, 6] (fun v i => ∃ k t : Nat, k ≤ 37 ∧ i = .int .i64 (36 - (k : Int)) ∧ v = .int .u64 (t : Int) ∧ t < 137438953472 ∧ Shut (rootFrom p two k = t)) (fun _ i => ((intOf i) + 1).toNat)
  case atStart => exact ⟨0, 0, by omega, rfl, rfl, by omega, ⟨rfl⟩⟩
  case round =>
    obtain ⟨k, t, hk, rfl, rfl, ht, HT⟩ := hrel
    by_cases hlt : k < 37
    · obtain ⟨x, HX⟩ : ∃ x, Shut ((t ||| 2 ^ (36 - k)) = x) := ⟨_, ⟨rfl⟩⟩
      have hx : x < 137438953472 := by rw [← HX.out]; exact Nat.or_lt_two_pow (n := 37) ht (Nat.pow_lt_pow_right (by decide) (by omega))
      have w1 : IntKind.u64.wrap (36 - (k : Int)) = ((36 - k : Nat) : Int) := by rw [IntKind.wrap_u64]; omega
      have g0 : (0 : Int) ≤ 36 - (k : Int) := by omega
      have hxe : bits .or .u64 (t : Int) (IntKind.u64.wrap (2 ^ (36 - k))) = (x : Int) := by
        have h1 : IntKind.u64.wrap ((2 : Int) ^ (36 - k)) = (2 : Int) ^ (36 - k) := by
          have h2 : (2 : Nat) ^ (36 - k) < 18446744073709551616 := Nat.lt_of_lt_of_le (Nat.pow_lt_pow_right (by decide) (show 36 - k < 37 by omega)) (by decide)
          have e : ((2 : Int) ^ (36 - k)) = ((2 ^ (36 - k) : Nat) : Int) := by simp
          rw [IntKind.wrap_u64, e]
          exact Int.emod_eq_of_lt (Int.natCast_nonneg _) (Int.ofNat_lt.2 h2)
        rw [h1, or_bit64 t (36 - k) ht (by omega), HX.out]
      have HXE := Lib.hid hxe
      have HST : Shut (rootFrom p two (k + 1) = if atMostS x p two = true then x else t) := ⟨by
        rw [rootFrom]
        simp only [HT.out, HX.out]⟩
      clear hxe
      go_wp2_with fail
      simp only [HXE.out]
      with_reducible refine (atMost_any x p two z w (by omega) hp HZ.out).mono ?_
      rintro e w' ⟨rfl, rfl⟩
      cases hb : atMostS x p two with
      | true =>
        have HN : Shut (rootFrom p two (k + 1) = x) := ⟨by rw [HST.out, if_pos hb]⟩
        clear hb
        go_wp2_with fail
        exact ⟨⟨k + 1, x, by omega, by go_num, rfl, hx, HN⟩, by simp [intOf]; omega⟩
      | false =>
        have HN : Shut (rootFrom p two (k + 1) = t) := ⟨by rw [HST.out, if_neg (by rw [hb]; decide)]⟩
        clear hb
        go_wp2_with fail
        exact ⟨⟨k + 1, t, by omega, by go_num, rfl, ht, HN⟩, by simp [intOf]; omega⟩
    · have HF : Hid (U (rootS p two) = (t : Int) % 4294967296) := Lib.hid (by
        rw [U_ofNat]
        unfold rootS
        rw [← HT.out, show k = 37 by omega])
      go_wp2_with fail
      go_ret
      exact ⟨ret_int (by rw [HF.out]), rfl⟩
end Go.Proofs.YthfpkefieemiaaaDoor
