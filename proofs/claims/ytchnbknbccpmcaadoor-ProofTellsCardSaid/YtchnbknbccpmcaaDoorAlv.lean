/- The chapter's examples; what is longer than asked. -/
import Derived.Test.YtchnbknbccpmcaaDoorOpn
import Derived.Lib.SlBytesConst
namespace Go.Proofs.YtchnbknbccpmcaaDoor
open Go.RowKit
open Go.Proofs.YtchnbknbccpmcaaDoor.H

theorem num_be (k n : Nat) (h : n < 256 ^ k) : F.num (F.be k n) = n := by
  induction k generalizing n with
  | zero => simp [F.be, F.num] at h ⊢; omega
  | succ k ih =>
    rw [F.be, F.num_snoc, ih (n / 256) (by rw [Nat.pow_succ] at h; omega)]
    rw [UInt8.toNat_ofNat', Nat.mod_eq_of_lt (by omega : n % 256 % 2 ^ 8 < 256) |>.symm]
    omega
theorem ticket_take (key : List UInt8) (who : ByteArray) (n : Nat) : (ticketB key who n).take 8 = F.be 8 n := by
  rw [ticketB, List.take_append_of_le_length (by rw [be_len]; exact Nat.le_refl _), List.take_of_length_le (by rw [be_len]; exact Nat.le_refl _)]
/-- A ticket is opened. -/
theorem open_ticket (key : List UInt8) (who : ByteArray) (n : Nat) (h : n ≤ 1099511627776) : openB key who (ticketB key who n) = some n := by
  have e : F.num ((ticketB key who n).take 8) = n := by rw [ticket_take, num_be 8 n (by omega)]
  unfold openB
  rw [e, if_pos ⟨ticketB_length key who n, h, rfl⟩]
/-- What is opened is a ticket of that number. -/
theorem open_some {key : List UInt8} {who : ByteArray} {bs : List UInt8} {n : Nat} (h : openB key who bs = some n) : n ≤ 1099511627776 ∧ bs = ticketB key who n := by
  unfold openB at h
  split at h
  · rename_i k
    injection h with h
    rw [h] at k
    exact ⟨k.2.1, k.2.2⟩
  · cases h
theorem seals_apart : (openB [107, 101, 121] ⟨#[98]⟩ (ticketB [107, 101, 121] ⟨#[97]⟩ 7)) = none := by decide +kernel

/-- The two errors that package proof answers: pointers. -/
def erV (a : Addr) : Value := .iface 127 (.pointer (some a))
theorem key_at (w : World) : KeyAt (w.alloc (.cells #[.int .u8 107, .int .u8 101, .int .u8 121] 5 (3, 4))) (some ⟨w.heap.size, 0, none⟩) 3 3 [107, 101, 121] :=
  ⟨rfl, by decide, by decide, rd_new w #[.int .u8 107, .int .u8 101, .int .u8 121] [107, 101, 121] (3, 4) rfl⟩
theorem own_key {w : World} {base : Nat} {v : Value} {bs : List UInt8} {n : Nat} (h : w.ownsRow base 5 1 v n (bs.map bv)) (_hn : n < 1152921504606846976) : ∃ A c, v = .slice A n c ∧ KeyAt w A n c bs ∧ (∀ ad, A = some ad → base ≤ ad.block) := by
  obtain ⟨A, c, rfl, hl, hc, hcm, hr, hb⟩ := own_sliceN h
  exact ⟨A, c, rfl, ⟨by simpa using hl, hc, hcm, hr⟩, hb⟩

set_option maxRecDepth 100000 in
theorem alive_any (E : Nat → Value) (a0 a1 : Addr) (w : World) (hE : Env w E (.iface 127 (.pointer (some a0))) (.iface 127 (.pointer (some a1)))) :
    Calls Tryd.prog 7 #[] w fun e w' => e = .returned (.bool true) ∧ Hid (Below w.heap.size w w') := by
  have h0 := hE.tab.1
  have hb1 := below_alloc' w (.cells #[.int .u8 107, .int .u8 101, .int .u8 121] 5 (3, 4))
  have hz1 : (w.alloc (.cells #[.int .u8 107, .int .u8 101, .int .u8 121] 5 (3, 4))).heap.size = w.heap.size + 1 := by simp
  have hk1 := key_at w
  have hE1 := hE.below h0 hb1
  have HT := Lib.hid (ticket_ok E 127 _ _ (some ⟨w.heap.size, 0, none⟩) 3 3 ⟨#[97]⟩ 7 [107, 101, 121] _ hE1 hk1 (by decide) (by decide) (by decide))
  have HB1 := Lib.hid hb1
  have HK1 := Lib.hid hk1
  have HE1 := Lib.hid hE1
  clear hE hb1 hk1 hE1 hz1
  have heq : ∀ (w : World), (binOp BinOp.eql 30 .nilIface .nilIface).run Tryd.prog w = .ok (.bool true) w := fun _ => by kernel_rfl
  have hes := err_same a1
  have hcv := fun (w' : World) (C : Array Value) (n c : Nat) => Lib.run_convert_bytes_const (P := Tryd.prog) w' 22 5 C n c Tryd.underlying22 Tryd.underlying5
  go_enter Tryd.func7, Tryd.ntmps7
  go_wp2_with fail
  clear hcv
  with_reducible refine HT.out.mono ?_
  rintro e w2 ⟨v, rfl, HV⟩
  obtain ⟨B, d, rfl, hkt, _⟩ := own_key HV.out.1 (by decide)
  have hb2 := HV.out.2
  have hk2 := HK1.out.below hb2
  have hE2 := HE1.out.below (Nat.lt_of_lt_of_le h0 HB1.out.size) hb2
  have HO := Lib.hid (open_yes E 127 _ _ (some ⟨w.heap.size, 0, none⟩) 3 3 ⟨#[97]⟩ B 32 d [107, 101, 121] _ 7 w2 hE2 hk2 hkt (by decide) (by decide) (open_ticket _ _ 7 (by decide)))
  have HB2 := Lib.hid (HB1.out.trans (hb2.mono HB1.out.size))
  have HK2 := Lib.hid hk2
  have HE2 := Lib.hid hE2
  have HKT := Lib.hid hkt
  clear HT HV hb2 hk2 hE2 hkt HB1 HK1 HE1
  go_wp2_with fail
  with_reducible refine HO.out.mono ?_
  rintro e w3 ⟨v3, rfl, HV3⟩
  obtain ⟨hv3, hb3⟩ := HV3.out
  subst hv3
  have HP := Lib.hid (open_no E 127 _ _ _ (some ⟨w.heap.size, 0, none⟩) 3 3 ⟨#[98]⟩ B 32 d [107, 101, 121] _ w3 (HE2.out.below (Nat.lt_of_lt_of_le h0 HB2.out.size) hb3) (HK2.out.below hb3) (HKT.out.below hb3) (by decide) (by decide) seals_apart)
  have HB3 := Lib.hid (HB2.out.trans (hb3.mono HB2.out.size))
  have HE3 := Lib.hid (HE2.out.below (Nat.lt_of_lt_of_le h0 HB2.out.size) hb3)
  clear HO HV3 hb3 HB2 HK2 HE2 HKT
  go_wp2_with fail
  with_reducible refine HP.out.mono ?_
  rintro e w4 ⟨rfl, HV4⟩
  have hp4 := (HE3.out.below (Nat.lt_of_lt_of_le h0 HB3.out.size) HV4.out).er.proof
  go_wp2_with fail
  go_ret
  exact ⟨rfl, Lib.hid (HB3.out.trans (HV4.out.mono HB3.out.size))⟩

/-- A case's cells. -/
def caseV (K : Option Addr) (kn kc : Nat) (M : Option Addr) (nn nc : Nat) (who : ByteArray) (z : Int) (T : Option Addr) (n d : Nat) : List Value := [.slice K kn kc, .slice M nn nc, .string who, .int .i64 z, .slice T n d]
set_option maxRecDepth 100000 in
theorem long_any (K : Option Addr) (kn kc : Nat) (M : Option Addr) (nn nc : Nat) (who : ByteArray) (z : Int) (T : Option Addr) (n d : Nat) (w : World) :
    Calls Tryd.prog 8 #[.agg #[.slice K kn kc, .slice M nn nc, .string who, .int .i64 z, .slice T n d]] w fun e w' => e = .returned (.bool (decide (3000 < kn ∨ 3000 < nn ∨ 3000 < who.size ∨ 3000 < n))) ∧ Hid (Below w.heap.size w w') := by
  have hr := H.Row.new w [.slice K kn kc, .slice M nn nc, .string who, .int .i64 z, .slice T n d] 24
  have c0 := hr.cell 0
  have c1 := hr.cell 1
  have c2 := hr.cell 2
  have c4 := hr.cell 4
  simp only [List.getElem?_cons_zero, List.getElem?_cons_succ] at c0 c1 c2 c4
  have hb := below_alloc' w (.cells #[.slice K kn kc, .slice M nn nc, .string who, .int .i64 z, .slice T n d] 24)
  have HB := Lib.hid hb
  clear hb hr
  go_enter Tryd.func8, Tryd.ntmps8
  by_cases k1 : (3000 : Int) < (kn : Int)
  · go_wp2_with fail
    go_ret
    exact ⟨H.ret_bool (by simp; omega), HB⟩
  by_cases k2 : (3000 : Int) < (nn : Int)
  · go_wp2_with fail
    go_ret
    exact ⟨H.ret_bool (by simp; omega), HB⟩
  by_cases k3 : (3000 : Int) < (who.size : Int)
  · go_wp2_with fail
    go_ret
    exact ⟨H.ret_bool (by simp; omega), HB⟩
  by_cases k4 : (3000 : Int) < (n : Int)
  · go_wp2_with fail
    go_ret
    exact ⟨H.ret_bool (by simp; omega), HB⟩
  go_wp2_with fail
  go_ret
  exact ⟨H.ret_bool (by simp; omega), HB⟩
end Go.Proofs.YtchnbknbccpmcaaDoor
