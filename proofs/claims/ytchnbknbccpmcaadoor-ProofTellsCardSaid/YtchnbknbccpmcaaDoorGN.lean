/- The reference's Number: a number as bytes. -/
import Derived.Test.YtchnbknbccpmcaaDoorGB
namespace Go.Proofs.YtchnbknbccpmcaaDoor.F
open Go.RowKit
theorem be_cons (j n : Nat) : be (j + 1) n = UInt8.ofNat (n / 256 ^ j % 256) :: be j n := by
  induction j generalizing n with
  | zero => simp [be]
  | succ j ih =>
    rw [be, ih]
    conv => rhs; rw [be]
    rw [List.cons_append, Nat.pow_succ, Nat.div_div_eq_div_mul, Nat.mul_comm 256]
theorem made_zero (n : Nat) : (madeCells (Value.int .u8 0).cells (n * 1)).toList = (List.replicate n (0 : UInt8)).map bv := by
  apply List.ext_getElem
  · simp [size_madeCells]
  · intro i h1 h2
    simp [madeCells, Value.cells, bv, Nat.mod_one]
theorem set_last (j : Nat) (b : UInt8) (r : List UInt8) : ((List.replicate (j + 1) (0 : UInt8) ++ r).map bv).set j (bv b) = (List.replicate j (0 : UInt8) ++ b :: r).map bv := by
  rw [List.replicate_succ', List.append_assoc, List.map_append, List.set_append_right _ _ (by simp)]
  simp

set_option maxRecDepth 100000 in
set_option maxHeartbeats 400000 in
theorem rnumber_any (N size : Nat) (w : World) (h8 : size ≤ 8) (hN : N < 18446744073709551616) :
    Calls Tryd.prog 42 #[.int .u64 (N : Int), .int .i64 (size : Int)] w fun e w' => e = .returned (.slice (some ⟨w.heap.size, 0, none⟩) size size) ∧ Hid (w'.ownsRow w.heap.size 5 1 (.slice (some ⟨w.heap.size, 0, none⟩) size size) size ((be size N).map bv) ∧ Below w.heap.size w w') := by
  obtain ⟨i0, hi0, hz0, hz1, hz2⟩ := info_parts u8_info
  have HI := Lib.hid (And.intro hi0 (And.intro hz0 (And.intro hz1 hz2)))
  clear hi0 hz0 hz1 hz2
  go_enter Tryd.func42, Tryd.ntmps42
  go_wp2_with (first
    | (refine wpList_make_full _ rfl _ _ 22 rfl w.heap.size 5 i0 _ 1 Tryd.underlying22 HI.out.1 HI.out.2.1 HI.out.2.2.1 .i64 .i64 _ _ size rfl rfl rfl rfl (by rw [HI.out.2.2.2]; omega) (by simp only [maxLen]; omega) (Nat.le_refl _) ?_
       intro w2 hown2 hg2))
  go_loopw [0, 6] (fun u i W => ∃ j : Nat, j ≤ size ∧ i = .int .i64 j ∧ u = .int .u64 ((N / 256 ^ (size - j) : Nat) : Int) ∧ Hid (W.ownsRow w.heap.size 5 1 (.slice (some ⟨w.heap.size, 0, none⟩) size size) size ((List.replicate j (0 : UInt8) ++ be (size - j) N).map bv) ∧ Below w.heap.size w W)) (fun _ i _ => (intOf i).toNat)
  case atStart =>
    refine ⟨size, Nat.le_refl _, rfl, by simp, Lib.hid ⟨?_, (Below.refl _ _).grown hg2 (Nat.le_refl _) (fun k hk => by cases hk)⟩⟩
    rw [made_zero] at hown2
    simpa [be] using hown2
  case round =>
    obtain ⟨j, hj, rfl, rfl, HR⟩ := hrel
    by_cases hlt : 0 < j
    · obtain ⟨i, rfl⟩ : ∃ i, j = i + 1 := ⟨j - 1, by omega⟩
      have hb : N / 256 ^ (size - (i + 1)) < 18446744073709551616 := Nat.lt_of_le_of_lt (Nat.div_le_self _ _) hN
      have HS : Hid (N / 256 ^ (size - i) = N / 256 ^ (size - (i + 1)) / 256) := Lib.hid (by rw [show size - i = size - (i + 1) + 1 by omega, Nat.pow_succ, Nat.div_div_eq_div_mul])
      have HBC : Hid (be (size - i) N = UInt8.ofNat (N / 256 ^ (size - (i + 1)) % 256) :: be (size - (i + 1)) N) := Lib.hid (by rw [show size - i = size - (i + 1) + 1 by omega]; exact be_cons _ _)
      have hcl := HR.out.1.cellAt i (by omega)
      obtain ⟨u0, hu0⟩ : ∃ u0, ((List.replicate (i + 1) (0 : UInt8) ++ be (size - (i + 1)) N).map bv)[i]? = some u0 := ⟨_, List.getElem?_eq_getElem (by simp; omega)⟩
      rw [hu0] at hcl
      have hfz := HR.out.1.frozenAt i
      clear hu0
      generalize hq : N / 256 ^ (size - (i + 1)) = q at *
      have HQ := Lib.hid hq
      clear hq
      go_wp2_with fail
      have hst := HR.out.1.stored i (bv (UInt8.ofNat (q % 256)))
      have hbv : bv (UInt8.ofNat (q % 256)) = .int .u8 ((q : Int) % 256) := by
        unfold bv
        congr 1
        rw [UInt8.toNat_ofNat', Nat.mod_eq_of_lt (by omega)]
        omega
      rw [set_last, hbv] at hst
      refine ⟨⟨i, by omega, rfl, by rw [HS.out]; rfl, Lib.hid ⟨by rw [HBC.out]; exact hst.1, HR.out.2.setCell (Nat.le_refl _) _⟩⟩, by simp [intOf]⟩
    · have hj0 : j = 0 := by omega
      subst hj0
      go_wp2_with fail
      go_ret
      exact ⟨rfl, Lib.hid ⟨by simpa using HR.out.1, HR.out.2⟩⟩
end Go.Proofs.YtchnbknbccpmcaaDoor.F
