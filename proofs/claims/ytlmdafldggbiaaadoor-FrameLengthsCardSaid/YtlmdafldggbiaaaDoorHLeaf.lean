/- What the small functions on words answer: RotateLeft32, right, turned, wordOf. -/
import Derived.Test.YtlmdafldggbiaaaDoorHBase
import Derived.Deep.QuietTactic
import Derived.BigQuiet
namespace Go.Proofs.YtlmdafldggbiaaaDoor.H
open Go.RowKit

theorem amount (n : Nat) (h : n < 32) (h0 : 0 < n) : bits .and .u64 (IntKind.u64.wrap (-(n : Int))) 31 = ((32 - n : Nat) : Int) := by
  have e : IntKind.u64.wrap (-(n : Int)) = ((18446744073709551616 - n : Nat) : Int) := by rw [IntKind.wrap_u64]; omega
  rw [e, show (31 : Int) = ((31 : Nat) : Int) from rfl, u64_and_nat _ _ (by omega) (by omega)]
  congr 1
  rw [show (31 : Nat) = 2 ^ 5 - 1 from rfl, Nat.and_two_pow_sub_one_eq_mod]
  omega

set_option maxRecDepth 100000 in
set_option maxHeartbeats 400000 in
theorem rotate_any (x : Wd) (n : Nat) (w : World) (h0 : 0 < n) (h : n < 32) :
    Calls Tryd.prog 77 #[.int .u32 (U x), .int .i64 (-(n : Int))] w fun e w' => e = .returned (.int .u32 (U (rotr x n))) ∧ w = w' := by
  have ha := amount n h h0
  have hs : IntKind.u64.wrap (32 - ((32 - n : Nat) : Int)) = (n : Int) := by rw [IntKind.wrap_u64]; omega
  have hnn : (0 : Int) ≤ ((32 - n : Nat) : Int) := by omega
  go_enter Tryd.func77, Tryd.ntmps77
  go_wp2
  go_ret
  exact ⟨ret_int (by rw [u_shl', u_shr, u_or]; rfl), rfl⟩

set_option maxRecDepth 100000 in
set_option maxHeartbeats 400000 in
theorem right_any (x : Wd) (n : Nat) (w : World) (h0 : 0 < n) (h : n < 32) :
    Calls Tryd.prog 76 #[.int .u32 (U x), .int .i64 (n : Int)] w fun e w' => e = .returned (.int .u32 (U (rotr x n))) ∧ w = w' := by
  have hs : IntKind.i64.wrap (0 - (n : Int)) = -(n : Int) := by rw [IntKind.wrap_i64]; omega
  go_enter Tryd.func76, Tryd.ntmps76
  go_wp2_with fail
  with_reducible refine (rotate_any x n w h0 h).mono ?_
  rintro e w' ⟨rfl, rfl⟩
  go_wp2_with fail
  go_ret
  exact ⟨rfl, rfl⟩
theorem right_lit (x : Wd) (n : Nat) (z : Int) (w : World) (hz : z = (n : Int)) (h0 : 0 < n) (h : n < 32) :
    Calls Tryd.prog 76 #[.int .u32 (U x), .int .i64 z] w fun e w' => e = .returned (.int .u32 (U (rotr x n))) ∧ w = w' := by
  subst hz
  exact right_any x n w h0 h

set_option maxRecDepth 100000 in
set_option maxHeartbeats 400000 in
theorem turned_any (x : Wd) (i j k : Nat) (w : World) (hi : 0 < i ∧ i < 32) (hj : 0 < j ∧ j < 32) (hk : 0 < k ∧ k < 32) :
    Calls Tryd.prog 74 #[.int .u32 (U x), .int .i64 (i : Int), .int .i64 (j : Int), .int .i64 (k : Int)] w fun e w' => e = .returned (.int .u32 (U (rotr x i ^^^ rotr x j ^^^ rotr x k))) ∧ w = w' := by
  go_enter Tryd.func74, Tryd.ntmps74
  go_wp2_with fail
  with_reducible refine (right_any x i w hi.1 hi.2).mono ?_
  rintro e w' ⟨rfl, rfl⟩
  go_wp2_with fail
  with_reducible refine (right_any x j w hj.1 hj.2).mono ?_
  rintro e w' ⟨rfl, rfl⟩
  go_wp2_with fail
  with_reducible refine (right_any x k w hk.1 hk.2).mono ?_
  rintro e w' ⟨rfl, rfl⟩
  go_wp2_with fail
  go_ret
  exact ⟨ret_int (by rw [u_xor, u_xor]), rfl⟩
theorem turned1 (x : Wd) (w : World) : Calls Tryd.prog 74 #[.int .u32 (U x), .int .i64 6, .int .i64 11, .int .i64 25] w fun e w' => e = .returned (.int .u32 (U (bg1 x))) ∧ w = w' :=
  turned_any x 6 11 25 w (by decide) (by decide) (by decide)
theorem turned0 (x : Wd) (w : World) : Calls Tryd.prog 74 #[.int .u32 (U x), .int .i64 2, .int .i64 13, .int .i64 22] w fun e w' => e = .returned (.int .u32 (U (bg0 x))) ∧ w = w' :=
  turned_any x 2 13 22 w (by decide) (by decide) (by decide)

set_option maxRecDepth 100000 in
set_option maxHeartbeats 400000 in
theorem wordOf_any (b o n c : Nat) (b0 b1 b2 b3 : UInt8) (w : World) (hn : 4 ≤ n) (h0 : w.cell? ⟨b, o, none⟩ = some (bv b0)) (h1 : w.cell? ⟨b, o + 1, none⟩ = some (bv b1)) (h2 : w.cell? ⟨b, o + 2, none⟩ = some (bv b2)) (h3 : w.cell? ⟨b, o + 3, none⟩ = some (bv b3)) :
    Calls Tryd.prog 75 #[.slice (some ⟨b, o, none⟩) n c] w fun e w' => e = .returned (.int .u32 (U (wordOf b0 b1 b2 b3))) ∧ ∃ m, w' = w.drewN m := by
  unfold bv at h0 h1 h2 h3
  have k0 : IntKind.u32.wrap (b0.toNat : Int) = U (bw b0) := by rw [U_bw, wrap_U]
  have k1 : IntKind.u32.wrap (b1.toNat : Int) = U (bw b1) := by rw [U_bw, wrap_U]
  have k2 : IntKind.u32.wrap (b2.toNat : Int) = U (bw b2) := by rw [U_bw, wrap_U]
  have k3 : IntKind.u32.wrap (b3.toNat : Int) = U (bw b3) := by rw [U_bw, wrap_U]
  have i0 : 0 < n := by omega
  have i1 : (1 : Int) < (n : Int) := by omega
  have i2 : (2 : Int) < (n : Int) := by omega
  have i3 : (3 : Int) < (n : Int) := by omega
  go_enter Tryd.func75, Tryd.ntmps75
  go_wp2_with fail
  go_quiet (fail)
  go_wp2_with fail
  go_ret
  refine ⟨ret_int ?_, _, rfl⟩
  have e24 := u_shl' (bw b0) 24
  have e16 := u_shl' (bw b1) 16
  have e8 := u_shl' (bw b2) 8
  simp only [Int.reducePow] at e24 e16 e8
  rw [e24, e16, e8, u_or, u_or, u_or]
  rfl
end Go.Proofs.YtlmdafldggbiaaaDoor.H
