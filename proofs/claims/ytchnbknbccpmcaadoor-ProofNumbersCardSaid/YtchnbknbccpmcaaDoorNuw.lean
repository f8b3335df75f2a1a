/- The law ProofNumbers. -/
import Derived.Test.YtchnbknbccpmcaaDoorShw
namespace Go.Proofs.YtchnbknbccpmcaaDoor
open Go.RowKit
open Go.Proofs.YtchnbknbccpmcaaDoor.H

theorem toList_neN {s t : ByteArray} (h : s ≠ t) : (s.toList == t.toList) = false := by
  have h2 : s.toList ≠ t.toList := fun e => h (by
    rw [ByteArray.toList_eq, ByteArray.toList_eq] at e
    exact ByteArray.ext (Array.toList_inj.1 e))
  simpa using h2
theorem ticket_inj {key : List UInt8} {who : ByteArray} {a b : Nat} (ha : a ≤ 1099511627776) (hb : b ≤ 1099511627776) (h : ticketB key who a = ticketB key who b) : a = b := by
  have e := congrArg (fun l : List UInt8 => F.num (l.take 8)) h
  simp only [ticket_take] at e
  rwa [num_be 8 a (by omega), num_be 8 b (by omega)] at e
theorem left_in (y : Int) (_h1 : -9223372036854775808 ≤ y) (_h2 : y ≤ 9223372036854775807) : ∃ m : Nat, m < 1099511627776 ∧ wrap64 ((IntKind.u64.wrap y).tmod 1099511627776) = (m : Int) := by
  refine ⟨((IntKind.u64.wrap y).tmod 1099511627776).toNat, ?_, ?_⟩
  · have h0 : 0 ≤ IntKind.u64.wrap y := by rw [IntKind.wrap_u64]; omega
    have h1 := Int.tmod_lt_of_pos (IntKind.u64.wrap y) (show (0 : Int) < 1099511627776 by decide)
    have h2 := Int.tmod_nonneg 1099511627776 h0
    omega
  · have h0 : 0 ≤ IntKind.u64.wrap y := by rw [IntKind.wrap_u64]; omega
    have h1 := Int.tmod_lt_of_pos (IntKind.u64.wrap y) (show (0 : Int) < 1099511627776 by decide)
    have h2 := Int.tmod_nonneg 1099511627776 h0
    rw [Int.toNat_of_nonneg h2]
    unfold wrap64
    omega

set_option maxRecDepth 100000 in
theorem numbers_any (E : Nat → Value) (a0 a1 : Addr) (K : Option Addr) (kn kc : Nat) (key : List UInt8) (M : Option Addr) (nn nc : Nat) (nonce : List UInt8) (who : ByteArray) (z : Int) (T : Option Addr) (n d : Nat) (bs : List UInt8) (y : Int) (hy1 : -9223372036854775808 ≤ y) (hy2 : y ≤ 9223372036854775807) (w : World)
    (hE : Env w E (.iface 127 (.pointer (some a0))) (.iface 127 (.pointer (some a1)))) (hk : KeyAt w K kn kc key) (hm : KeyAt w M nn nc nonce) (ht : KeyAt w T n d bs) :
    Calls Tryd.prog 6 #[.agg #[.slice K kn kc, .slice M nn nc, .string who, .int .i64 z, .slice T n d], .int .i64 y] w fun e w' => e = .returned (.bool true) ∧ Below w.heap.size w w' := by
  have HC1 := Lib.hid (Case.new (who := who) (z := z) hE hk hm ht)
  have HB1 := Lib.hid (below_alloc' w (.cells #[.slice K kn kc, .slice M nn nc, .string who, .int .i64 z, .slice T n d] 24))
  generalize hw1 : w.alloc (.cells #[.slice K kn kc, .slice M nn nc, .string who, .int .i64 z, .slice T n d] 24) = w1 at *
  have HW1 := Lib.hid hw1
  clear hE hk hm ht hw1
  have hnot : ∀ (x : Bool) (w : World), (Op.unary .not (.bool x)).run Tryd.prog w = .ok (.bool (!x)) w := fun _ _ => rfl
  go_enter Tryd.func6, Tryd.ntmps6
  go_wp2_with fail
  rw [HW1.out]
  with_reducible refine (alive_any E a0 a1 w1 HC1.out.env).mono ?_
  rintro e w2 ⟨rfl, HV⟩
  have HC2 := Lib.hid (HC1.out.below HV.out)
  have HB2 := Lib.hid (HB1.out.trans (HV.out.mono HB1.out.size))
  clear HC1 HB1 HV HW1
  obtain ⟨c0, c1, c2, c3, c4⟩ := case_cells HC2.out.row
  go_wp2_with fail
  with_reducible refine (long_any K kn kc M nn nc who z T n d w2).mono ?_
  rintro e w3 ⟨rfl, HV⟩
  have hb3 := HV.out
  have HC3 := Lib.hid (HC2.out.below hb3)
  have HB3 := Lib.hid (HB2.out.trans (hb3.mono HB2.out.size))
  clear HV
  clear HC2 HB2 hb3 c0 c1 c2 c3 c4
  obtain ⟨c0, c1, c2, c3, c4⟩ := case_cells HC3.out.row
  by_cases hl : 3000 < kn ∨ 3000 < nn ∨ 3000 < who.size ∨ 3000 < n
  · rw [decide_eq_true hl]
    go_wp2_with fail
    go_ret
    exact ⟨rfl, HB3.out⟩
  rw [decide_eq_false hl]
  clear hl
  have heq : ∀ (w : World), (binOp BinOp.eql 30 .nilIface .nilIface).run Tryd.prog w = .ok (.bool true) w := fun _ => by kernel_rfl
  have heq2 : ∀ (t : TypeId) (u : Value) (w : World), (binOp BinOp.eql 30 (.iface t u) .nilIface).run Tryd.prog w = .ok (.bool false) w := fun _ _ _ => by kernel_rfl
  have hne : ∀ (w : World), (binOp BinOp.neq 30 .nilIface .nilIface).run Tryd.prog w = .ok (.bool false) w := fun _ => by kernel_rfl
  have hne2 : ∀ (t : TypeId) (u : Value) (w : World), (binOp BinOp.neq 30 (.iface t u) .nilIface).run Tryd.prog w = .ok (.bool true) w := fun _ _ _ => by kernel_rfl
  obtain ⟨m, hml, hm⟩ := left_in y hy1 hy2
  by_cases hA : (1 ≤ kn ∧ kn ≤ 64) ∧ (1 ≤ who.size ∧ who.size ≤ 16) ∧ (0 ≤ z ∧ z ≤ 1099511627776)
  rotate_left
  · have HT := Lib.hid (ticket_bad E 127 _ _ K kn kc who z w3 HC3.out.env hA)
    clear hA heq heq2 hne hm
    go_wp2_with fail
    with_reducible refine HT.out.mono ?_
    rintro e wt ⟨rfl, HV⟩
    go_wp2_with fail
    go_ret
    exact ⟨rfl, HB3.out.trans (HV.out.mono HB3.out.size)⟩
  have HT := Lib.hid (ticket_ok E 127 _ _ K kn kc who z key w3 HC3.out.env HC3.out.key hA.1 hA.2.1 hA.2.2)
  have HM := Lib.hid hm
  have HA := Lib.hid hA
  clear hm hA heq2 hne2
  go_wp2_with fail
  with_reducible refine HT.out.mono ?_
  rintro e w4 ⟨v3, rfl, HV⟩
  have hb4 := HV.out.2
  have HC4 := Lib.hid (HC3.out.below hb4)
  have HB4 := Lib.hid (HB3.out.trans (hb4.mono HB3.out.size))
  obtain ⟨A3, d3, rfl, hk3, _⟩ := own_key HV.out.1 (by decide)
  have HO := Lib.hid (open_yes E 127 _ _ K kn kc who A3 32 d3 key _ z.toNat w4 HC4.out.env HC4.out.key hk3 HA.out.1 HA.out.2.1 (open_ticket key who z.toNat (by have := HA.out.2.2.2; omega)))
  have HK3 := Lib.hid hk3
  clear hk3 HV HT
  clear HC3 HB3 hb4 c0 c1 c2 c3 c4
  obtain ⟨c0, c1, c2, c3, c4⟩ := case_cells HC4.out.row
  go_wp2_with fail
  with_reducible refine HO.out.mono ?_
  rintro e w5 ⟨v4, rfl, HV⟩
  have hb5 := HV.out.2
  have HC5 := Lib.hid (HC4.out.below hb5)
  have HB5 := Lib.hid (HB4.out.trans (hb5.mono HB4.out.size))
  obtain ⟨hv4, _⟩ := HV.out
  have hzz : ((z.toNat : Nat) : Int) = z := Int.toNat_of_nonneg HA.out.2.2.1
  rw [hzz] at hv4
  subst hv4
  have HT := Lib.hid (fun zm hzm => ticket_ok E 127 (.pointer (some a0)) (.iface 127 (.pointer (some a1))) K kn kc who zm key w5 HC5.out.env HC5.out.key HA.out.1 HA.out.2.1 hzm)
  have HK3' := Lib.hid (HK3.out.below hb5)
  clear HV HO HK3 hzz
  clear HC4 HB4 hb5 c0 c1 c2 c3 c4
  obtain ⟨c0, c1, c2, c3, c4⟩ := case_cells HC5.out.row
  go_wp2_with fail
  rw [HM.out]
  with_reducible refine (HT.out (m : Int) ⟨by omega, by omega⟩).mono ?_
  rintro e w6 ⟨v6, rfl, HV⟩
  have hb6 := HV.out.2
  have HC6 := Lib.hid (HC5.out.below hb6)
  have HB6 := Lib.hid (HB5.out.trans (hb6.mono HB5.out.size))
  obtain ⟨A6, d6, rfl, hk6, _⟩ := own_key HV.out.1 (by decide)
  rw [Int.toNat_natCast] at hk6
  have HO := Lib.hid (open_yes E 127 _ _ K kn kc who A6 32 d6 key _ m w6 HC6.out.env HC6.out.key hk6 HA.out.1 HA.out.2.1 (open_ticket key who m (by omega)))
  have HK3 := Lib.hid (HK3'.out.below hb6)
  have HK6 := Lib.hid hk6
  clear hk6 HV HT HK3'
  clear HC5 HB5 hb6 c0 c1 c2 c3 c4
  obtain ⟨c0, c1, c2, c3, c4⟩ := case_cells HC6.out.row
  go_wp2_with fail
  with_reducible refine HO.out.mono ?_
  rintro e w7 ⟨v7, rfl, HV⟩
  have hb7 := HV.out.2
  have HC7 := Lib.hid (HC6.out.below hb7)
  have HB7 := Lib.hid (HB6.out.trans (hb7.mono HB6.out.size))
  obtain ⟨hv7, _⟩ := HV.out
  subst hv7
  have hv3 := (HK3.out.below hb7).rd.toStr 32 d3 (HK3.out.below hb7).len
  have hv6 := (HK6.out.below hb7).rd.toStr 32 d6 (HK6.out.below hb7).len
  clear HV HO HK3 HK6
  clear HC6 HB6 hb7 c0 c1 c2 c3 c4
  obtain ⟨c0, c1, c2, c3, c4⟩ := case_cells HC7.out.row
  have hinj := fun h => @ticket_inj key who z.toNat m (by have := HA.out.2.2.2; omega) (by omega) h
  have hzz : ((z.toNat : Nat) : Int) = z := Int.toNat_of_nonneg HA.out.2.2.1
  by_cases hmz : z = (m : Int)
  · subst hmz
    rw [Int.toNat_natCast] at hv3
    generalize (⟨(ticketB key who m).toArray⟩ : ByteArray) = s3 at *
    clear hinj hzz HA
    have hM2 := HM.out
    have hbt : ∀ (w : World), (binOp BinOp.eql 4 (.bool true) (.bool true)).run Tryd.prog w = .ok (.bool true) w := fun _ => by kernel_rfl
    go_wp2_with fail
    go_ret
    exact ⟨H.ret_bool (by simp []), HB7.out⟩
  · have hss : (⟨(ticketB key who z.toNat).toArray⟩ : ByteArray) ≠ ⟨(ticketB key who m).toArray⟩ := fun e => hmz (by
      have h1 := congrArg (fun s : ByteArray => s.data.toList) e
      have h2 := hinj h1
      omega)
    generalize (⟨(ticketB key who m).toArray⟩ : ByteArray) = s6 at *
    generalize (⟨(ticketB key who z.toNat).toArray⟩ : ByteArray) = s3 at *
    have hq := toList_neN hss
    have hmz2 : ((m : Int) == z) = false := beq_eq_false_iff_ne.2 (fun e => hmz e.symm)
    have hM2 := HM.out
    clear hinj hzz HA hss hmz
    have hbt : ∀ (w : World), (binOp BinOp.eql 4 (.bool false) (.bool false)).run Tryd.prog w = .ok (.bool true) w := fun _ => by kernel_rfl
    go_wp2_with fail
    go_ret
    exact ⟨H.ret_bool (by simp []), HB7.out⟩
end Go.Proofs.YtchnbknbccpmcaaDoor
