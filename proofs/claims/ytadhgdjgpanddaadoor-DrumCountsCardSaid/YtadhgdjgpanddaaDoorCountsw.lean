/- The law DrumCounts: its walk. -/
import Derived.Test.YtadhgdjgpanddaaDoorCount
namespace Go.Proofs.YtadhgdjgpanddaaDoor
open Go.RowKit

theorem mod20 (z : Int) : ∃ m : Nat, (wrap64 (z.tmod 20 + 20)).tmod 20 = (m : Int) ∧ m < 20 := by
  have h1 := Int.tmod_lt_of_pos z (b := 20) (by omega)
  have h2 : -20 < z.tmod 20 := by
    have := Int.lt_tmod_of_pos z (b := 20) (by omega)
    omega
  have e : wrap64 (z.tmod 20 + 20) = z.tmod 20 + 20 := by unfold wrap64; omega
  rw [e]
  have h3 := Int.tmod_nonneg (20 : Int) (show 0 ≤ z.tmod 20 + 20 by omega)
  have h4 := Int.tmod_lt_of_pos (z.tmod 20 + 20) (b := 20) (by omega)
  exact ⟨((z.tmod 20 + 20).tmod 20).toNat, by omega, by omega⟩
set_option maxHeartbeats 1000000 in
set_option maxRecDepth 100000 in
theorem counts_any (ad : Nat → Addr) (z0 : Int) (A : Option Addr) (L c : Nat) (zs : List Int) (w : World) (hE : Errs w ad) (h2 : 2 ≤ w.heap.size) (b0 : -9223372036854775808 ≤ z0) (b1 : z0 ≤ 9223372036854775807) (hL : zs.length = L) (hLc : L ≤ c) (hcm : c ≤ 9223372036854775807) (hr : Ints w A zs) :
    Calls Tryd.prog 4 #[.int .i64 z0, .slice A L c] w fun e w' => e = .returned (.bool true) ∧ Below w.heap.size w w' := by
  have HE := Lib.hid hE
  have HL := Lib.hid hL
  have HR := Lib.hid hr
  clear hE hL hr
  have H8 : Hid ((8 : Int) = ((8 : Nat) : Int)) := Lib.hid rfl
  go_enter Tryd.func4, Tryd.ntmps4
  go_wp2_with fail
  with_reducible refine (alive_any ad w HE.out h2).mono ?_
  rintro x w1 ⟨rfl, H1⟩
  go_wp2_with fail
  with_reducible refine (new_ok 8 _ w1 H8.out (by omega) (by omega)).mono ?_
  rintro x w2 ⟨rfl, H2⟩
  go_wp2_with fail
  obtain ⟨m, hm0, hm⟩ := mod20 z0
  have HM := Lib.hid hm0
  clear hm0
  simp only [HM.out]
  have hmI : (m : Int) ≤ 9223372036854775807 := by omega
  with_reducible refine (arm_any _ _ w2 H2.out.1 hmI).mono ?_
  rintro x w3 ⟨rfl, H3⟩
  have HT : Hid (∀ k, Two (w1.heap.size + 1) w1.heap.size k → w1.heap.size ≤ k) := Lib.hid (by rintro k (e | e) <;> omega)
  have HB3 : Hid (Below w.heap.size w w3) := Lib.hid (H1.out.trans ((H2.out.2.1.trans (H3.out.2.below HT.out H2.out.2.1.size)).mono H1.out.size))
  have HZ : Hid (w.heap.size ≤ w1.heap.size ∧ w1.heap.size + 2 ≤ w3.heap.size) := Lib.hid (by have e1 := H1.out.size; have e2 := H2.out.2.2; have e3 := H3.out.2.size; omega)
  have HC0 : Hid (CoHas ad w (w3.alloc (.cells #[.int .u8 0, .int .u8 0, .int .u8 0, .int .u8 0, .int .u8 0, .int .u8 0, .int .u8 0, .int .u8 0] 58)) (w1.heap.size + 1) w1.heap.size w3.heap.size m 0) := Lib.hid (by
    have hb : Below w3.heap.size w3 (w3.alloc (.cells #[.int .u8 0, .int .u8 0, .int .u8 0, .int .u8 0, .int .u8 0, .int .u8 0, .int .u8 0, .int .u8 0] 58)) := (Below.refl _ _).alloc (Nat.le_refl _) _
    have hz := HZ.out
    refine co_start (H3.out.1.under hb) (Row.new w3 [.int .u8 0, .int .u8 0, .int .u8 0, .int .u8 0, .int .u8 0, .int .u8 0, .int .u8 0, .int .u8 0] 58) (by omega) (by omega) (HB3.out.trans (hb.mono HB3.out.size)) ((HE.out.below h2 HB3.out).below (by omega) hb))
  generalize hg : w1.heap.size + 1 = g at *
  generalize hh : w1.heap.size = h at *
  clear hg hh HT HZ HB3 H3 H2 H1 hmI
  go_wp2_with fail
  generalize hv : w3.heap.size = v at *
  clear hv
  go_loopw [38] (fun i W => ∃ k : Nat, k ≤ L ∧ k ≤ 61 ∧ i = .int .i64 k ∧ Hid (CoHas ad w W g h v m k)) (fun i _ => L - (intOf i).toNat)
  case atStart => exact ⟨0, Nat.zero_le _, by omega, rfl, HC0⟩
  case round =>
    clear HC0
    obtain ⟨k, hk, hk61, rfl, HK⟩ := hrel
    by_cases hlt : k < L
    · obtain ⟨aa, z, rfl, _, hcell, hz1, hz2⟩ := HR.out.cell (k := k) (by rw [HL.out]; exact hlt) HK.out.below
      obtain ⟨i, hi, hib⟩ := and_seven z
      by_cases hle : k ≤ 60
      · have hle' : ¬ (60 : Int) < (k : Int) := by omega
        by_cases hkm : k < m
        · have HB : Hid ((k : Int) + 1 = ((UInt8.ofNat (k + 1)).toNat : Int)) := Lib.hid (by rw [UInt8.toNat_ofNat', Nat.mod_eq_of_lt (by omega)]; omega)
          have hd1 : decide (k < m) = true := by simpa using hkm
          have hd2 : decide (m ≤ k) = false := by simp; omega
          go_wp2_with fail
          with_reducible refine (co_write' ad g h v m k i _ (UInt8.ofNat (k + 1)) w wr HK.out hi HB.out hkm (by omega)).mono ?_
          rintro x w4 ⟨rfl, D, ws, H4⟩
          have cw := H4.out.cell hi
          have fw := H4.out.row.frozen i
          clear hcell
          go_wp2_with fail
          with_reducible refine (co_off_mid ad g h v m k i _ D ws w w4 H4.out hkm).mono ?_
          rintro x w5 ⟨rfl, rfl⟩
          go_wp2_with fail
          exact ⟨⟨k + 1, by omega, by omega, by go_num, Lib.hid (H4.out.next _ HB.out)⟩, by simp [intOf]; omega⟩
        · have hd1 : decide (k < m) = false := by simp; omega
          have hd2 : decide (m ≤ k) = true := by simp; omega
          have HMK : Hid (m ≤ k ∧ true = decide (m < k + 1)) := Lib.hid ⟨by omega, by symm; simp; omega⟩
          go_wp2_with fail
          with_reducible refine (co_power ad g h v m k i _ _ w wr HK.out hi rfl HMK.out.1).mono ?_
          rintro x w4 ⟨rfl, H4⟩
          have c1 := H4.out.errs.cell 1 (by omega)
          have heq := fun w' => err_neq (ad 1) w'
          clear hcell
          go_wp2_with fail
          with_reducible refine (co_off ad g h v m (k + 1) true w w4 H4.out HMK.out.2).mono ?_
          rintro x w5 ⟨rfl, rfl⟩
          clear heq c1
          go_wp2_with fail
          exact ⟨⟨k + 1, by omega, by omega, by go_num, H4⟩, by simp [intOf]; omega⟩
      · have hle' : (60 : Int) < (k : Int) := by omega
        have hmin : min k m = min m (min L 61) := by omega
        have HMIN := Lib.hid hmin
        clear hmin
        go_wp2_with fail
        with_reducible refine (co_on ad g h v m k w wr HK.out).mono ?_
        rintro x w4 ⟨rfl, D, ws, H4⟩
        clear HK
        go_wp2_with fail
        go_loopw [91] (fun i W => ∃ j : Nat, j ≤ 8 ∧ i = .int .i64 j ∧ Hid (CoOn w W g h v (min k m) D ws)) (fun i _ => 8 - (intOf i).toNat)
        case atStart => exact ⟨0, by omega, rfl, H4⟩
        case round =>
          clear H4
          obtain ⟨j, hj, rfl, HJ⟩ := hrel
          by_cases hj8 : j < 8
          · obtain ⟨bx, hbx⟩ : ∃ bx, ws[j]? = some bx := ⟨_, List.getElem?_eq_getElem (by rw [HJ.out.len]; exact hj8)⟩
            have HBX := Lib.hid hbx
            clear hbx
            have HBL : Hid ((blk bx).length = 64) := Lib.hid (blk_length bx)
            go_wp2_with fail
            with_reducible refine (co_read g h v (min k m) j bx D ws w wr HJ.out hj8 HBX.out).mono ?_
            rintro x w6 ⟨A6, rfl, H6⟩
            go_wp2_with (first
              | (refine wl_var rfl rfl rfl 12 rfl rfl (.tmp 98) rfl _ (blk bx) HBL.out H6.out.1 rfl rfl ?_
                 intro w7 H7))
            have HJ7 : Hid (CoOn w w7 g h v (min k m) D ws) := Lib.hid ((HJ.out.under H6.out.2).under H7.out.below)
            obtain ⟨K, HKL⟩ : ∃ K, Shut (K = (blk bx).map bv) := ⟨_, ⟨rfl⟩⟩
            have HS : Hid (w7.drew.rangeAt w6.heap.size 0 K ∧ w7.drew.cell? ⟨v, j, none⟩ = some (.int .u8 (bx.toNat : Int))) := Lib.hid ⟨by rw [HKL.out]; exact H7.out.row.all, by
              have h1 := HJ7.out.row.cell j
              rw [List.getElem?_map, HBX.out] at h1
              exact h1⟩
            have hu47 := under47
            have hi47 : (Tryd.prog.info? 47).map (·.size) = some K.length := by rw [HKL.out]; exact (fact64 (blk bx) HBL.out).out.1
            have heq : ∀ w' : World, (Op.equalIn 10000 47 (.agg K.toArray) (.agg #[.int .u8 (bx.toNat : Int), .int .u8 0, .int .u8 0, .int .u8 0, .int .u8 0, .int .u8 0, .int .u8 0, .int .u8 0, .int .u8 0, .int .u8 0, .int .u8 0, .int .u8 0, .int .u8 0, .int .u8 0, .int .u8 0, .int .u8 0, .int .u8 0, .int .u8 0, .int .u8 0, .int .u8 0, .int .u8 0, .int .u8 0, .int .u8 0, .int .u8 0, .int .u8 0, .int .u8 0, .int .u8 0, .int .u8 0, .int .u8 0, .int .u8 0, .int .u8 0, .int .u8 0, .int .u8 0, .int .u8 0, .int .u8 0, .int .u8 0, .int .u8 0, .int .u8 0, .int .u8 0, .int .u8 0, .int .u8 0, .int .u8 0, .int .u8 0, .int .u8 0, .int .u8 0, .int .u8 0, .int .u8 0, .int .u8 0, .int .u8 0, .int .u8 0, .int .u8 0, .int .u8 0, .int .u8 0, .int .u8 0, .int .u8 0, .int .u8 0, .int .u8 0, .int .u8 0, .int .u8 0, .int .u8 0, .int .u8 0, .int .u8 0, .int .u8 0, .int .u8 0])).run Tryd.prog w' = .ok true w' := fun w' => by
              rw [HKL.out, blk_lit _ bx rfl]
              exact eq_same 47 64 under47 (blk bx) (blk_length bx) w'
            have hg47 := guard47
            have hjI : (j : Int) < 8 := by omega
            go_region_held3 (fun w' => w'.rangeAt w6.heap.size 0 K ∧ w'.cell? ⟨v, j, none⟩ = some (.int .u8 (bx.toNat : Int)))
              (exact HS.out)
              (first | fail)
            clear hu47 hi47 heq hg47 hjI
            have HJ8 : Hid (CoOn w w7.drew g h v (min k m) D ws) := Lib.hid (HJ7.out.stay ⟨rfl, rfl, rfl, rfl⟩)
            go_wp2_with fail
            exact ⟨⟨j + 1, by omega, by go_num, HJ8⟩, by simp [intOf]; omega⟩
          · go_wp2_with fail
            with_reducible refine (co_writes g h v (min k m) D ws w wr HJ.out).mono ?_
            rintro x w6 ⟨rfl, rfl⟩
            go_wp2_with fail
            all_goals
              go_ret
              exact ⟨ret_bool (by have := HMIN.out; rw [beq_iff_eq]; omega), HJ.out.below⟩
    · have hmin : min k m = min m (min L 61) := by omega
      have HMIN := Lib.hid hmin
      clear hmin
      go_wp2_with fail
      with_reducible refine (co_on ad g h v m k w wr HK.out).mono ?_
      rintro x w4 ⟨rfl, D, ws, H4⟩
      clear HK
      go_wp2_with fail
      go_loopw [91] (fun i W => ∃ j : Nat, j ≤ 8 ∧ i = .int .i64 j ∧ Hid (CoOn w W g h v (min k m) D ws)) (fun i _ => 8 - (intOf i).toNat)
      case atStart => exact ⟨0, by omega, rfl, H4⟩
      case round =>
        clear H4
        obtain ⟨j, hj, rfl, HJ⟩ := hrel
        by_cases hj8 : j < 8
        · obtain ⟨bx, hbx⟩ : ∃ bx, ws[j]? = some bx := ⟨_, List.getElem?_eq_getElem (by rw [HJ.out.len]; exact hj8)⟩
          have HBX := Lib.hid hbx
          clear hbx
          have HBL : Hid ((blk bx).length = 64) := Lib.hid (blk_length bx)
          go_wp2_with fail
          with_reducible refine (co_read g h v (min k m) j bx D ws w wr HJ.out hj8 HBX.out).mono ?_
          rintro x w6 ⟨A6, rfl, H6⟩
          go_wp2_with (first
            | (refine wl_var rfl rfl rfl 12 rfl rfl (.tmp 98) rfl _ (blk bx) HBL.out H6.out.1 rfl rfl ?_
               intro w7 H7))
          have HJ7 : Hid (CoOn w w7 g h v (min k m) D ws) := Lib.hid ((HJ.out.under H6.out.2).under H7.out.below)
          obtain ⟨K, HKL⟩ : ∃ K, Shut (K = (blk bx).map bv) := ⟨_, ⟨rfl⟩⟩
          have HS : Hid (w7.drew.rangeAt w6.heap.size 0 K ∧ w7.drew.cell? ⟨v, j, none⟩ = some (.int .u8 (bx.toNat : Int))) := Lib.hid ⟨by rw [HKL.out]; exact H7.out.row.all, by
            have h1 := HJ7.out.row.cell j
            rw [List.getElem?_map, HBX.out] at h1
            exact h1⟩
          have hu47 := under47
          have hi47 : (Tryd.prog.info? 47).map (·.size) = some K.length := by rw [HKL.out]; exact (fact64 (blk bx) HBL.out).out.1
          have heq : ∀ w' : World, (Op.equalIn 10000 47 (.agg K.toArray) (.agg #[.int .u8 (bx.toNat : Int), .int .u8 0, .int .u8 0, .int .u8 0, .int .u8 0, .int .u8 0, .int .u8 0, .int .u8 0, .int .u8 0, .int .u8 0, .int .u8 0, .int .u8 0, .int .u8 0, .int .u8 0, .int .u8 0, .int .u8 0, .int .u8 0, .int .u8 0, .int .u8 0, .int .u8 0, .int .u8 0, .int .u8 0, .int .u8 0, .int .u8 0, .int .u8 0, .int .u8 0, .int .u8 0, .int .u8 0, .int .u8 0, .int .u8 0, .int .u8 0, .int .u8 0, .int .u8 0, .int .u8 0, .int .u8 0, .int .u8 0, .int .u8 0, .int .u8 0, .int .u8 0, .int .u8 0, .int .u8 0, .int .u8 0, .int .u8 0, .int .u8 0, .int .u8 0, .int .u8 0, .int .u8 0, .int .u8 0, .int .u8 0, .int .u8 0, .int .u8 0, .int .u8 0, .int .u8 0, .int .u8 0, .int .u8 0, .int .u8 0, .int .u8 0, .int .u8 0, .int .u8 0, .int .u8 0, .int .u8 0, .int .u8 0, .int .u8 0, .int .u8 0])).run Tryd.prog w' = .ok true w' := fun w' => by
            rw [HKL.out, blk_lit _ bx rfl]
            exact eq_same 47 64 under47 (blk bx) (blk_length bx) w'
          have hg47 := guard47
          have hjI : (j : Int) < 8 := by omega
          go_region_held3 (fun w' => w'.rangeAt w6.heap.size 0 K ∧ w'.cell? ⟨v, j, none⟩ = some (.int .u8 (bx.toNat : Int)))
            (exact HS.out)
            (first | fail)
          clear hu47 hi47 heq hg47 hjI
          have HJ8 : Hid (CoOn w w7.drew g h v (min k m) D ws) := Lib.hid (HJ7.out.stay ⟨rfl, rfl, rfl, rfl⟩)
          go_wp2_with fail
          exact ⟨⟨j + 1, by omega, by go_num, HJ8⟩, by simp [intOf]; omega⟩
        · go_wp2_with fail
          with_reducible refine (co_writes g h v (min k m) D ws w wr HJ.out).mono ?_
          rintro x w6 ⟨rfl, rfl⟩
          go_wp2_with fail
          all_goals
            go_ret
            exact ⟨ret_bool (by have := HMIN.out; rw [beq_iff_eq]; omega), HJ.out.below⟩
end Go.Proofs.YtadhgdjgpanddaaDoor
