/- What the reference's small functions answer: letter, Known, fits, Number. -/
import Derived.Test.YtcphfgiegpnpeaaDoorBackw
namespace Go.Proofs.YtcphfgiegpnpeaaDoor
open Go.RowKit

theorem ret_two {k : IntKind} {a a' : Int} {b b' : Bool} (h1 : a = a') (h2 : b = b') : Ending.returned (.tuple #[.int k a, .bool b]) = .returned (.tuple #[.int k a', .bool b']) := by rw [h1, h2]

set_option maxHeartbeats 400000 in
theorem letter_any (c : Nat) (w : World) :
    Calls Tryd.prog 30 #[.int .u8 (c : Int)] w fun e w' => e = .returned (.tuple #[.int .i64 (hd c : Int), .bool (isT c)]) ∧ w = w' := by
  go_enter Tryd.func30, Tryd.ntmps30
  go_wp2
  all_goals
    go_ret2
    refine ⟨ret_two ?_ ?_, rfl⟩
    all_goals simp only [beq_iff_eq, beq_eq_false_iff_ne] at *
    · unfold hd
      repeat' split
      all_goals omega
    · unfold isT
      rw [Bool.eq_iff_iff]
      simp
      omega

set_option maxHeartbeats 400000 in
theorem rknown_any (s : ByteArray) (w : World) (hs : s.size ≤ maxLen) :
    Calls Tryd.prog 29 #[.string s] w fun e w' => e = .returned (.bool (kn s.data.toList)) ∧ w = w' := by
  unfold maxLen at hs
  go_enter Tryd.func29, Tryd.ntmps29
  go_wp2_with fail
  go_loop [3] (fun i => ∃ k : Nat, k ≤ s.size ∧ i = .int .i64 k ∧ Hid (kn (s.data.toList.take k) = true)) (fun i => s.size - (intOf i).toNat)
  case atStart => exact ⟨0, Nat.zero_le _, rfl, rfl⟩
  case round =>
    obtain ⟨k, hk, rfl, hkn⟩ := hrel
    by_cases hlt : k < s.size
    · go_wp2_with (go_at_call 30; refine (letter_any _ _).mono ?_; rintro e w' ⟨rfl, rfl⟩)
      · rename_i h0
        go_ret
        exact ⟨ret_bool (kn_at s k hlt (by simpa using h0)).symm, rfl⟩
      · rename_i h0
        refine ⟨⟨k + 1, by omega, by go_num, ?_⟩, by simp [intOf]; omega⟩
        have h1 := hkn.out
        show kn _ = true
        rw [take_snoc s k hlt]
        unfold kn at h1 ⊢
        rw [List.all_append, h1]
        simpa using h0
    · go_wp2_with fail
      go_ret
      refine ⟨ret_bool ?_, rfl⟩
      have h1 := hkn.out
      rw [List.take_of_length_le (by simp; omega)] at h1
      exact h1.symm

def fitsB (n : Int) (h : Nat) : Bool := decide (0 ≤ n ∧ (n < 256 ^ h ∨ h = 8))

set_option maxHeartbeats 400000 in
theorem fits_any (n : Int) (h : Nat) (w : World) (hh : h ≤ 8) (hlo : -9223372036854775808 ≤ n) (hhi : n ≤ 9223372036854775807) :
    Calls Tryd.prog 32 #[.int .i64 n, .int .i64 (h : Int)] w fun e w' => e = .returned (.bool (fitsB n h)) ∧ w = w' := by
  by_cases hneg : n < 0
  · go_enter Tryd.func32, Tryd.ntmps32
    go_wp2_with fail
    go_ret
    refine ⟨ret_bool ?_, rfl⟩
    unfold fitsB
    symm
    simp
    omega
  · obtain ⟨N, rfl⟩ := Int.eq_ofNat_of_zero_le (show 0 ≤ n by omega)
    go_enter Tryd.func32, Tryd.ntmps32
    go_wp2_with fail
    go_loop [0, 5] (fun v i => ∃ k : Nat, k ≤ h ∧ i = .int .i64 k ∧ v = .int .i64 ((N / 256 ^ k : Nat) : Int)) (fun _ i => h - (intOf i).toNat)
    case atStart => exact ⟨0, Nat.zero_le _, rfl, by simp⟩
    case round =>
      obtain ⟨k, hk, rfl, rfl⟩ := hrel
      have hb : N / 256 ^ k ≤ 9223372036854775807 := by
        have := Nat.div_le_self N (256 ^ k)
        omega
      have HS : Hid (N / 256 ^ (k + 1) = N / 256 ^ k / 256) := Lib.hid (by rw [Nat.pow_succ, Nat.div_div_eq_div_mul])
      generalize hq : N / 256 ^ k = q at *
      have HQ := Lib.hid hq
      clear hq
      by_cases hlt : k < h
      · go_wp2_with fail
        exact ⟨⟨k + 1, by omega, by go_num, by rw [HS.out]; rfl⟩, by simp [intOf]; omega⟩
      · have hkh : k = h := by omega
        subst hkh
        have hz : (q = 0) ↔ N < 256 ^ k := by
          rw [← HQ.out]
          exact Nat.div_eq_zero_iff_lt (Nat.pow_pos (by omega))
        have HZ := Lib.hid hz
        clear hz
        go_wp2_with fail
        · rename_i h0 _
          go_ret
          refine ⟨ret_bool ?_, rfl⟩
          have h1 := HZ.out.1 h0
          unfold fitsB
          symm
          rw [decide_eq_true_iff]
          refine ⟨by omega, .inl ?_⟩
          have e : ((256 ^ k : Nat) : Int) = (256 : Int) ^ k := by simp
          rw [← e]
          omega
        · rename_i h0 _
          go_ret
          refine ⟨ret_bool ?_, rfl⟩
          have h1 : ¬ N < 256 ^ k := fun e => h0 (HZ.out.2 e)
          have e : ((256 ^ k : Nat) : Int) = (256 : Int) ^ k := by simp
          have h2 : ¬ (N : Int) < (256 : Int) ^ k := by rw [← e]; omega
          unfold fitsB
          rw [Bool.eq_iff_iff]
          simp only [Bool.or_eq_true, beq_iff_eq, decide_eq_true_iff]
          constructor
          · intro hh2
            exact ⟨by omega, .inr (by omega)⟩
          · rintro ⟨_, h3 | h3⟩
            · exact absurd h3 h2
            · right; omega

theorem be_cons (j n : Nat) : be (j + 1) n = UInt8.ofNat (n / 256 ^ j % 256) :: be j n := by
  induction j generalizing n with
  | zero => simp [be]
  | succ j ih =>
    rw [be, ih]
    conv => rhs; rw [be]
    rw [List.cons_append, Nat.pow_succ, Nat.div_div_eq_div_mul, Nat.mul_comm 256]
theorem made_zero (n : Nat) : (madeCells (Value.int .u8 0).cells (n * 1)).toList = (List.replicate n (0 : UInt8)).map bv := by
  apply List.ext_getElem
  · simp [size_madeCells]
  · intro i h1 h2
    simp [madeCells, Value.cells, bv, Nat.mod_one]
theorem set_last (j : Nat) (b : UInt8) (r : List UInt8) : ((List.replicate (j + 1) (0 : UInt8) ++ r).map bv).set j (bv b) = (List.replicate j (0 : UInt8) ++ b :: r).map bv := by
  rw [List.replicate_succ', List.append_assoc, List.map_append, List.set_append_right _ _ (by simp)]
  simp

set_option maxHeartbeats 400000 in
theorem rnumber_any (N size : Nat) (w : World) (h8 : size ≤ 8) (hN : N < 18446744073709551616) :
    Calls Tryd.prog 31 #[.int .u64 (N : Int), .int .i64 (size : Int)] w fun e w' => e = .returned (.slice (some ⟨w.heap.size, 0, none⟩) size size) ∧ Hid (w'.ownsRow w.heap.size 5 1 (.slice (some ⟨w.heap.size, 0, none⟩) size size) size ((be size N).map bv) ∧ Below w.heap.size w w') := by
  obtain ⟨i0, hi0, hz0, hz1, hz2⟩ := info_parts u8_info
  have HI := Lib.hid (And.intro hi0 (And.intro hz0 (And.intro hz1 hz2)))
  clear hi0 hz0 hz1 hz2
  go_enter Tryd.func31, Tryd.ntmps31
  go_wp2_with (first
    | (refine wpList_make_full _ rfl _ _ 24 rfl w.heap.size 5 i0 _ 1 Tryd.underlying24 HI.out.1 HI.out.2.1 HI.out.2.2.1 .i64 .i64 _ _ size rfl rfl rfl rfl (by rw [HI.out.2.2.2]; omega) (by simp only [maxLen]; omega) (Nat.le_refl _) ?_
       intro w2 hown2 hg2))
  go_loopw [0, 6] (fun u i W => ∃ j : Nat, j ≤ size ∧ i = .int .i64 j ∧ u = .int .u64 ((N / 256 ^ (size - j) : Nat) : Int) ∧ Hid (W.ownsRow w.heap.size 5 1 (.slice (some ⟨w.heap.size, 0, none⟩) size size) size ((List.replicate j (0 : UInt8) ++ be (size - j) N).map bv) ∧ Below w.heap.size w W)) (fun _ i _ => (intOf i).toNat)
  case atStart =>
    refine ⟨size, Nat.le_refl _, rfl, by simp, Lib.hid ⟨?_, (Below.refl _ _).grown hg2 (Nat.le_refl _) (fun k hk => by cases hk)⟩⟩
    rw [made_zero] at hown2
    simpa [be] using hown2
  case round =>
    obtain ⟨j, hj, rfl, rfl, HR⟩ := hrel
    by_cases hlt : 0 < j
    · obtain ⟨i, rfl⟩ : ∃ i, j = i + 1 := ⟨j - 1, by omega⟩
      have hb : N / 256 ^ (size - (i + 1)) < 18446744073709551616 := Nat.lt_of_le_of_lt (Nat.div_le_self _ _) hN
      have HS : Hid (N / 256 ^ (size - i) = N / 256 ^ (size - (i + 1)) / 256) := Lib.hid (by rw [show size - i = size - (i + 1) + 1 by omega, Nat.pow_succ, Nat.div_div_eq_div_mul])
      have HBC : Hid (be (size - i) N = UInt8.ofNat (N / 256 ^ (size - (i + 1)) % 256) :: be (size - (i + 1)) N) := Lib.hid (by rw [show size - i = size - (i + 1) + 1 by omega]; exact be_cons _ _)
      have hcl := HR.out.1.cellAt i (by omega)
      obtain ⟨u0, hu0⟩ : ∃ u0, ((List.replicate (i + 1) (0 : UInt8) ++ be (size - (i + 1)) N).map bv)[i]? = some u0 := ⟨_, List.getElem?_eq_getElem (by simp; omega)⟩
      rw [hu0] at hcl
      have hfz := HR.out.1.frozenAt i
      clear hu0
      generalize hq : N / 256 ^ (size - (i + 1)) = q at *
      have HQ := Lib.hid hq
      clear hq
      go_wp2_with fail
      have hst := HR.out.1.stored i (bv (UInt8.ofNat (q % 256)))
      have hbv : bv (UInt8.ofNat (q % 256)) = .int .u8 ((q : Int) % 256) := by
        unfold bv
        congr 1
        rw [UInt8.toNat_ofNat', Nat.mod_eq_of_lt (by omega)]
        omega
      rw [set_last, hbv] at hst
      refine ⟨⟨i, by omega, rfl, by rw [HS.out]; rfl, Lib.hid ⟨by rw [HBC.out]; exact hst.1, HR.out.2.setCell (Nat.le_refl _) _⟩⟩, by simp [intOf]⟩
    · have hj0 : j = 0 := by omega
      subst hj0
      go_wp2_with fail
      go_ret
      exact ⟨rfl, Lib.hid ⟨by simpa using HR.out.1, HR.out.2⟩⟩
end Go.Proofs.YtcphfgiegpnpeaaDoor
