/- Alike of all bytes. -/
import Derived.Test.YtchnbknbccpmcaaDoorGK
namespace Go.Proofs.YtchnbknbccpmcaaDoor.H
open Go.RowKit

theorem or_zero (x y : UInt8) : x ||| y = 0 ↔ x = 0 ∧ y = 0 := by
  constructor
  · intro h
    have h1 : x.toNat ||| y.toNat = 0 := by rw [← UInt8.toNat_or, h]; rfl
    have h2 := Nat.or_eq_zero_iff.1 h1
    exact ⟨UInt8.toNat_inj.1 h2.1, UInt8.toNat_inj.1 h2.2⟩
  · rintro ⟨rfl, rfl⟩; rfl
theorem xor_zero (x y : UInt8) : x ^^^ y = 0 ↔ x = y := by
  constructor
  · intro h
    have h1 : (x ^^^ y) ^^^ y = x := by rw [UInt8.xor_assoc, UInt8.xor_self, UInt8.xor_zero]
    rw [h, UInt8.zero_xor] at h1
    exact h1.symm
  · rintro rfl; simp
theorem byte_or (b m : UInt8) : bits .or .u8 (b.toNat : Int) (m.toNat : Int) = ((b ||| m).toNat : Int) := by
  rw [u8_or_nat _ _ b.toNat_lt m.toNat_lt, UInt8.toNat_or]
theorem take_eq_succ (a b : List UInt8) (k : Nat) (ha : k < a.length) (hb : k < b.length) : a.take (k + 1) = b.take (k + 1) ↔ a.take k = b.take k ∧ a[k] = b[k] := by
  rw [List.take_succ_eq_append_getElem ha, List.take_succ_eq_append_getElem hb]
  constructor
  · intro h
    have h1 := List.append_inj h (by simp; omega)
    exact ⟨h1.1, by simpa using h1.2⟩
  · rintro ⟨h1, h2⟩; rw [h1, h2]
/-- Are the bytes the same? -/
def sameB (a b : List UInt8) : Bool := decide (a = b)

set_option maxHeartbeats 400000 in
theorem alike_any (n m c d : Nat) (A B : Option Addr) (xs ys : List UInt8) (w : World) (hn : xs.length = n) (hm : ys.length = m) (hnm : n ≤ 9223372036854775807) (hr : Rd w w.heap.size A (xs.map bv)) (hr2 : Rd w w.heap.size B (ys.map bv)) :
    Calls Tryd.prog 38 #[.slice A n c, .slice B m d] w fun e w' => e = .returned (.bool (sameB xs ys)) ∧ ∃ q, w' = w.drewN q := by
  have HN := Lib.hid hn
  have HM := Lib.hid hm
  have HR := Lib.hid hr
  have HR2 := Lib.hid hr2
  clear hn hm hr hr2
  have hor := byte_or
  have hxo := byte_xor
  go_enter Tryd.func38, Tryd.ntmps38
  by_cases hne : n = m
  · subst hne
    go_wp2_with fail
    go_loopw [5, 14] (fun v i W => ∃ (k : Nat) (x : UInt8), k ≤ n ∧ i = .int .i64 k ∧ v = .int .u8 (x.toNat : Int) ∧ Shut ((x = 0 ↔ xs.take k = ys.take k) ∧ ∃ q, W = w.drewN q)) (fun _ i _ => n - (intOf i).toNat)
    case atStart => exact ⟨0, 0, Nat.zero_le _, rfl, rfl, ⟨by simp, 0, rfl⟩⟩
    case round =>
      obtain ⟨k, x, hk, rfl, rfl, HS⟩ := hrel
      by_cases hlt : k < n
      · have h1 : k < xs.length := by rw [HN.out]; exact hlt
        have h2 : k < ys.length := by rw [HM.out]; exact hlt
        obtain ⟨ad, rfl, _, hc1⟩ := HR.out.cell (k := k) (u := bv xs[k]) (by simp [h1])
        obtain ⟨ae, rfl, _, hc2⟩ := HR2.out.cell (k := k) (u := bv ys[k]) (by simp [h2])
        have hts := take_eq_succ xs ys k h1 h2
        generalize xs[k] = a at *
        generalize ys[k] = b at *
        unfold bv at hc1 hc2
        have hd1 : wr.cell? (ad.add k) = some (.int .u8 (a.toNat : Int)) := by obtain ⟨q, hq⟩ := HS.out.2; rw [hq]; exact hc1
        have hd2 : wr.cell? (ae.add k) = some (.int .u8 (b.toNat : Int)) := by obtain ⟨q, hq⟩ := HS.out.2; rw [hq]; exact hc2
        have HTS := Lib.hid hts
        have hki : (k : Int) < (n : Int) := by omega
        clear hts hc1 hc2
        go_wp2_with fail
        go_quiet (fail)
        go_wp2_with fail
        refine ⟨⟨k + 1, x ||| (a ^^^ b), by omega, by go_num, by rw [← UInt8.toNat_xor, byte_or], ⟨?_, ?_⟩⟩, by simp [intOf]; omega⟩
        · rw [or_zero, xor_zero, HTS.out, HS.out.1]
        · obtain ⟨q, hq⟩ := HS.out.2
          exact ⟨q + nq, by rw [hq]; simp [World.drewN, Nat.add_assoc]⟩
      · have hx : (x = 0 ↔ xs = ys) := by
          have h1 := HS.out.1
          rwa [List.take_of_length_le (by rw [HN.out]; omega), List.take_of_length_le (by rw [HM.out]; omega)] at h1
        have HQ := Lib.hid HS.out.2
        by_cases heq : xs = ys
        · have h0 : x = 0 := hx.2 heq
          subst h0
          have hsb : Hid (sameB xs ys = true) := Lib.hid (by simp [sameB, heq])
          clear hx heq HS
          go_wp2_with fail
          go_ret
          exact ⟨ret_bool (by rw [hsb.out]), HQ.out⟩
        · have h0 : x ≠ 0 := fun e => heq (hx.1 e)
          have h1 : ((x.toNat : Int) == 0) = false := by
            have : x.toNat ≠ 0 := fun e => h0 (UInt8.toNat_inj.1 e)
            simp; omega
          have hsb : Hid (sameB xs ys = false) := Lib.hid (by simp [sameB, heq])
          clear hx heq HS h0
          go_wp2_with fail
          go_ret
          exact ⟨ret_bool (by rw [hsb.out]), HQ.out⟩
  · have hsb : Hid (sameB xs ys = false) := Lib.hid (by
      unfold sameB
      rw [decide_eq_false_iff_not]
      intro e
      rw [e] at HN
      exact hne (HN.out.symm.trans HM.out))
    have h1 : ((n : Int) == (m : Int)) = false := by simp; omega
    have h2 : ((n : Int) != (m : Int)) = true := by simp; omega
    go_wp2_with fail
    go_ret
    exact ⟨ret_bool (by rw [hsb.out]), 0, rfl⟩
end Go.Proofs.YtchnbknbccpmcaaDoor.H
