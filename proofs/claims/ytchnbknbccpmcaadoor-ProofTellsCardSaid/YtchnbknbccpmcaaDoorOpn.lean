/- What Open and Right answer. -/
import Derived.Test.YtchnbknbccpmcaaDoorLnk
import Derived.Test.YtchnbknbccpmcaaDoorGL
namespace Go.Proofs.YtchnbknbccpmcaaDoor
open Go.RowKit
open Go.Proofs.YtchnbknbccpmcaaDoor.H


theorem sameB_eq (xs ys : List UInt8) : H.sameB xs ys = decide (xs = ys) := rfl
set_option maxRecDepth 100000 in
/-- Is a ticket that of the key, the name and the number? -/
theorem openQ_any (E : Nat → Value) (t : TypeId) (u ep : Value) (a b c : Nat) (K : Option Addr) (kn kc : Nat) (who : ByteArray) (z : Int) (key : List UInt8) (T : Option Addr) (n d : Nat) (bs : List UInt8) (w : World) (hE : Env w E (.iface t u) ep)
    (hk : KeyAt w K kn kc key) (k0 : 1 ≤ kn ∧ kn ≤ 64) (k1 : 1 ≤ who.size ∧ who.size ≤ 16) (hn : bs.length = n) (hnm : n ≤ 9223372036854775807) (hr : H.Rd w w.heap.size T (bs.map bv)) (hz : 0 ≤ z)
    (ha : w.cell? ⟨a, 0, none⟩ = some (.slice K kn kc)) (hb : w.cell? ⟨b, 0, none⟩ = some (.string who)) (hc : w.cell? ⟨c, 0, none⟩ = some (.int .i64 z)) :
    Calls Tryd.prog 37 #[.slice T n d, .pointer (some ⟨a, 0, none⟩), .pointer (some ⟨b, 0, none⟩), .pointer (some ⟨c, 0, none⟩)] w fun e w' => e = .returned (.bool (decide (z ≤ 1099511627776 ∧ bs = ticketB key who z.toNat))) ∧ Hid (Below w.heap.size w w') := by
  have heq : ∀ (w : World), (binOp BinOp.eql 30 .nilIface .nilIface).run Tryd.prog w = .ok (.bool true) w := fun _ => by kernel_rfl
  have heq2 : ∀ (t : TypeId) (u : Value) (w : World), (binOp BinOp.eql 30 (.iface t u) .nilIface).run Tryd.prog w = .ok (.bool false) w := fun _ _ _ => by kernel_rfl
  by_cases k2 : z ≤ 1099511627776
  · have HT := Lib.hid (ticket_ok E t u ep K kn kc who z key w hE hk k0 k1 ⟨hz, k2⟩)
    have HN := Lib.hid hn
    have HR := Lib.hid hr
    clear hE hk hn hr heq2
    go_enter Tryd.func37, Tryd.ntmps37
    go_wp2_with fail
    with_reducible refine HT.out.mono ?_
    rintro e w2 ⟨v, rfl, HV⟩
    obtain ⟨B, c2, rfl, hbl, _, _, hbr, _⟩ := own_sliceN HV.out.1
    have hl := ticketB_length key who z.toNat
    have HA := Lib.hid (H.alike_any n 32 d c2 T B bs (ticketB key who z.toNat) w2 HN.out hl hnm ((HR.out.below HV.out.2).more HV.out.2.size) hbr)
    clear HT hbl hbr hl
    go_wp2_with fail
    with_reducible refine HA.out.mono ?_
    rintro e w3 ⟨rfl, q, rfl⟩
    go_wp2_with fail
    go_ret
    exact ⟨H.ret_bool (by rw [sameB_eq]; simp [k2]), Lib.hid (H.below_drewN HV.out.2 q)⟩
  · have HT := Lib.hid (ticket_bad E t u ep K kn kc who z w hE (fun h => k2 h.2.2.2))
    clear hE hk hn hr heq
    go_enter Tryd.func37, Tryd.ntmps37
    go_wp2_with fail
    with_reducible refine HT.out.mono ?_
    rintro e w2 ⟨rfl, HV⟩
    go_wp2_with fail
    go_ret
    exact ⟨H.ret_bool (decide_eq_false (fun h => by have := h.1; omega)).symm, HV⟩
theorem enter37 (a : Array Value) (w : World) : (callFunc 37 a).run Tryd.prog w = .ok (.enter 37 a) w := by kernel_rfl
/-- A ticket opened. -/
def openB (key : List UInt8) (who : ByteArray) (bs : List UInt8) : Option Nat :=
  if bs.length = 32 ∧ F.num (bs.take 8) ≤ 1099511627776 ∧ bs = ticketB key who (F.num (bs.take 8)) then some (F.num (bs.take 8)) else none
set_option maxRecDepth 100000 in
theorem openC_bad (E : Nat → Value) (t : TypeId) (u ep : Value) (a b c : Nat) (K : Option Addr) (kn kc : Nat) (who : ByteArray) (T : Option Addr) (n d : Nat) (w : World) (hE : Env w E (.iface t u) ep)
    (ha : w.cell? ⟨a, 0, none⟩ = some (.slice K kn kc)) (_la : a < w.heap.size) (hb : w.cell? ⟨b, 0, none⟩ = some (.string who)) (lb : b < w.heap.size) (hc : w.cell? ⟨c, 0, none⟩ = some (.slice T n d)) (_lc : c < w.heap.size) (hbad : ¬ ((1 ≤ kn ∧ kn ≤ 64) ∧ (1 ≤ who.size ∧ who.size ≤ 16))) :
    Calls Tryd.prog 34 #[.pointer (some ⟨a, 0, none⟩), .pointer (some ⟨b, 0, none⟩), .pointer (some ⟨c, 0, none⟩)] w fun e w' => e = .panicked [{ v := .iface 81 (.agg #[.iface t u]), recovered := false }] ∧ Below w.heap.size w w' := by
  have h0 := hE.tab.1
  have HE := Lib.hid hE
  have Ha := Lib.hid ha
  have Hb := Lib.hid hb
  have Hc := Lib.hid hc
  clear hE ha hb hc
  have HB0 := Lib.hid (Below.refl w.heap.size w)
  have c0 := Ha.out
  go_enter Tryd.func34, Tryd.ntmps34
  go_wp2_with fail
  have hs0 := askSecret_any K kn kc _ _ w HE.out.er (by have := HB0.out.size; omega)
  by_cases k0 : (1 ≤ kn ∧ kn ≤ 64)
  rotate_left
  · clear hbad
    rw [decide_eq_false k0] at hs0
    simp only [asked, Bool.false_eq_true, if_false, thrown] at hs0
    refine hs0.mono ?_
    rintro e w9 ⟨rfl, HW⟩
    go_wp2_with fail
    exact ⟨rfl, rfl, HB0.out.trans (HW.out.mono HB0.out.size)⟩
  rw [decide_eq_true k0] at hs0
  simp only [asked, if_true] at hs0
  refine hs0.mono ?_
  rintro e w1 ⟨rfl, HW⟩
  have HB1 := Lib.hid (HB0.out.trans (HW.out.mono HB0.out.size))
  clear HW hs0 c0
  have c1 := (HB1.out.cell (p := ⟨b, 0, none⟩) lb).trans Hb.out
  go_wp2_with fail
  have hs1 := askName_any who _ _ w1 (HE.out.below h0 HB1.out).er (by have := HB1.out.size; omega)
  rw [decide_eq_false (fun h => hbad ⟨k0, h⟩)] at hs1
  simp only [asked, Bool.false_eq_true, if_false, thrown] at hs1
  refine hs1.mono ?_
  rintro e w9 ⟨rfl, HW⟩
  go_wp2_with fail
  exact ⟨rfl, rfl, HB1.out.trans (HW.out.mono HB1.out.size)⟩
set_option maxRecDepth 100000 in
theorem openC_link (E : Nat → Value) (t : TypeId) (u ep : Value) (a b c : Nat) (K : Option Addr) (kn kc : Nat) (who : ByteArray) (T : Option Addr) (n d : Nat) (key bs : List UInt8) (w : World) (hE : Env w E (.iface t u) ep)
    (ha : w.cell? ⟨a, 0, none⟩ = some (.slice K kn kc)) (la : a < w.heap.size) (hb : w.cell? ⟨b, 0, none⟩ = some (.string who)) (lb : b < w.heap.size) (hc : w.cell? ⟨c, 0, none⟩ = some (.slice T n d)) (lc : c < w.heap.size) (hk : KeyAt w K kn kc key) (ht : KeyAt w T n d bs) (k0 : 1 ≤ kn ∧ kn ≤ 64) (k1 : 1 ≤ who.size ∧ who.size ≤ 16) (hbad : ¬ (n = 32 ∧ F.num (bs.take 8) ≤ 9223372036854775807)) :
    Calls Tryd.prog 34 #[.pointer (some ⟨a, 0, none⟩), .pointer (some ⟨b, 0, none⟩), .pointer (some ⟨c, 0, none⟩)] w fun e w' => e = .panicked [{ v := .iface 81 (.agg #[ep]), recovered := false }] ∧ Below w.heap.size w w' := by
  have h0 := hE.tab.1
  have HE := Lib.hid hE
  have HK := Lib.hid hk
  have HT := Lib.hid ht
  clear hk ht
  obtain ⟨tp, up, rfl⟩ := HE.out.er.p_
  have Ha := Lib.hid ha
  have Hb := Lib.hid hb
  have Hc := Lib.hid hc
  clear hE ha hb hc
  have HB0 := Lib.hid (Below.refl w.heap.size w)
  have c0 := Ha.out
  go_enter Tryd.func34, Tryd.ntmps34
  go_wp2_with fail
  have hs0 := askSecret_any K kn kc _ _ w HE.out.er (by have := HB0.out.size; omega)
  rw [decide_eq_true k0] at hs0
  simp only [asked, if_true] at hs0
  refine hs0.mono ?_
  rintro e w1 ⟨rfl, HW⟩
  have HB1 := Lib.hid (HB0.out.trans (HW.out.mono HB0.out.size))
  clear HW hs0 c0 HB0
  have c1 := (HB1.out.cell (p := ⟨b, 0, none⟩) lb).trans Hb.out
  go_wp2_with fail
  have hs1 := askName_any who _ _ w1 (HE.out.below h0 HB1.out).er (by have := HB1.out.size; omega)
  rw [decide_eq_true k1] at hs1
  simp only [asked, if_true] at hs1
  refine hs1.mono ?_
  rintro e w2 ⟨rfl, HW⟩
  have HB2 := Lib.hid (HB1.out.trans (HW.out.mono HB1.out.size))
  clear HW hs1 c1 HB1
  have da := (HB2.out.cell (p := ⟨a, 0, none⟩) la).trans Ha.out
  have db := (HB2.out.cell (p := ⟨b, 0, none⟩) lb).trans Hb.out
  have dc := (HB2.out.cell (p := ⟨c, 0, none⟩) lc).trans Hc.out
  clear Ha Hb Hc
  have la2 : a < w2.heap.size := Nat.lt_of_lt_of_le la HB2.out.size
  have lb2 : b < w2.heap.size := Nat.lt_of_lt_of_le lb HB2.out.size
  have lc2 : c < w2.heap.size := Nat.lt_of_lt_of_le lc HB2.out.size
  have ht2 := HT.out.below HB2.out
  have hE2 := HE.out.below h0 HB2.out
  have hl : Calls Tryd.prog 35 #[.slice T n d] w2 fun e w' => e = .panicked [{ v := .iface 81 (.agg #[.iface tp up]), recovered := false }] ∧ Below w2.heap.size w2 w' := by
    by_cases hn : n = 32
    · subst hn
      exact linkIn_great E _ tp up T d bs w2 hE2 ht2.len ht2.cap ht2.max ht2.rd (fun h => hbad ⟨rfl, h⟩)
    · exact linkIn_short E _ tp up T n d w2 hE2 hn
  clear la2 lb2 lc2 ht2 hE2
  go_wp2_with fail
  refine hl.mono ?_
  rintro e w5 ⟨rfl, hb5⟩
  go_wp2_with fail
  exact ⟨rfl, rfl, HB2.out.trans (hb5.mono HB2.out.size)⟩
set_option maxRecDepth 100000 in
theorem openC_no (E : Nat → Value) (t : TypeId) (u ep : Value) (a b c : Nat) (K : Option Addr) (kn kc : Nat) (who : ByteArray) (T : Option Addr) (d : Nat) (key bs : List UInt8) (w : World) (hE : Env w E (.iface t u) ep)
    (ha : w.cell? ⟨a, 0, none⟩ = some (.slice K kn kc)) (la : a < w.heap.size) (hb : w.cell? ⟨b, 0, none⟩ = some (.string who)) (lb : b < w.heap.size) (hc : w.cell? ⟨c, 0, none⟩ = some (.slice T 32 d)) (lc : c < w.heap.size) (hk : KeyAt w K kn kc key) (ht : KeyAt w T 32 d bs) (k0 : 1 ≤ kn ∧ kn ≤ 64) (k1 : 1 ≤ who.size ∧ who.size ≤ 16) (hgood : F.num (bs.take 8) ≤ 9223372036854775807) (hno : ¬ (F.num (bs.take 8) ≤ 1099511627776 ∧ bs = ticketB key who (F.num (bs.take 8)))) :
    Calls Tryd.prog 34 #[.pointer (some ⟨a, 0, none⟩), .pointer (some ⟨b, 0, none⟩), .pointer (some ⟨c, 0, none⟩)] w fun e w' => e = .panicked [{ v := .iface 81 (.agg #[ep]), recovered := false }] ∧ Below w.heap.size w w' := by
  have h0 := hE.tab.1
  have HE := Lib.hid hE
  have HK := Lib.hid hk
  have HT := Lib.hid ht
  clear hk ht
  obtain ⟨tp, up, rfl⟩ := HE.out.er.p_
  have Ha := Lib.hid ha
  have Hb := Lib.hid hb
  have Hc := Lib.hid hc
  clear hE ha hb hc
  have HB0 := Lib.hid (Below.refl w.heap.size w)
  have c0 := Ha.out
  go_enter Tryd.func34, Tryd.ntmps34
  go_wp2_with fail
  have hs0 := askSecret_any K kn kc _ _ w HE.out.er (by have := HB0.out.size; omega)
  rw [decide_eq_true k0] at hs0
  simp only [asked, if_true] at hs0
  refine hs0.mono ?_
  rintro e w1 ⟨rfl, HW⟩
  have HB1 := Lib.hid (HB0.out.trans (HW.out.mono HB0.out.size))
  clear HW hs0 c0 HB0
  have c1 := (HB1.out.cell (p := ⟨b, 0, none⟩) lb).trans Hb.out
  go_wp2_with fail
  have hs1 := askName_any who _ _ w1 (HE.out.below h0 HB1.out).er (by have := HB1.out.size; omega)
  rw [decide_eq_true k1] at hs1
  simp only [asked, if_true] at hs1
  refine hs1.mono ?_
  rintro e w2 ⟨rfl, HW⟩
  have HB2 := Lib.hid (HB1.out.trans (HW.out.mono HB1.out.size))
  clear HW hs1 c1 HB1
  have da := (HB2.out.cell (p := ⟨a, 0, none⟩) la).trans Ha.out
  have db := (HB2.out.cell (p := ⟨b, 0, none⟩) lb).trans Hb.out
  have dc := (HB2.out.cell (p := ⟨c, 0, none⟩) lc).trans Hc.out
  clear Ha Hb Hc
  have la2 : a < w2.heap.size := Nat.lt_of_lt_of_le la HB2.out.size
  have lb2 : b < w2.heap.size := Nat.lt_of_lt_of_le lb HB2.out.size
  have lc2 : c < w2.heap.size := Nat.lt_of_lt_of_le lc HB2.out.size
  have ht2 := HT.out.below HB2.out
  have hE2 := HE.out.below h0 HB2.out
  have hl := linkIn_ok E _ tp up T d bs w2 hE2 ht2.len ht2.cap ht2.max ht2.rd hgood
  clear ht2 hE2
  go_wp2_with fail
  refine hl.mono ?_
  rintro e w5 ⟨rfl, hb5⟩
  have HB5 := Lib.hid (HB2.out.trans (hb5.mono HB2.out.size))
  have da5 := (hb5.cell (p := ⟨a, 0, none⟩) la2).trans da
  have db5 := (hb5.cell (p := ⟨b, 0, none⟩) lb2).trans db
  have dc5 := (hb5.cell (p := ⟨c, 0, none⟩) lc2).trans dc
  have hn5 : w2.heap.size ≤ w5.heap.size := hb5.size
  clear hl hb5 da db dc
  generalize hzn : (F.num (bs.take 8) : Int) = z at *
  have HZ := Lib.hid hzn
  clear hzn
  have hmf : ∀ (fn : Fn) (first cap : Array Value) (w : World), (Instr.makeFunc fn first cap).run Tryd.prog w = .ok (.func fn first cap) w := fun _ _ _ _ => rfl
  have hbb := below_alloc' w5 (.cells #[.int .i64 z] 3)
  have hr6 := H.Row.new w5 [.int .i64 z] 3
  have hB6 : Below w.heap.size w (w5.alloc (.cells #[.int .i64 z] 3)) := HB5.out.trans (hbb.mono HB5.out.size)
  have ga := (hbb.cell (p := ⟨a, 0, none⟩) (Nat.lt_of_lt_of_le la2 hn5)).trans da5
  have gb := (hbb.cell (p := ⟨b, 0, none⟩) (Nat.lt_of_lt_of_le lb2 hn5)).trans db5
  have gt := (hbb.cell (p := ⟨c, 0, none⟩) (Nat.lt_of_lt_of_le lc2 hn5)).trans dc5
  have gc : (w5.alloc (.cells #[.int .i64 z] 3)).cell? ⟨w5.heap.size, 0, none⟩ = some (.int .i64 z) := hr6.cell 0
  have hE6 := HE.out.below h0 hB6
  have ge := hE6.er.proof
  have ht6 := HT.out.below hB6
  have hQ := askB 37 #[.pointer (some ⟨a, 0, none⟩), .pointer (some ⟨b, 0, none⟩), .pointer (some ⟨w5.heap.size, 0, none⟩)] (.slice T 32 d) tp up _ (fun x w' => x = decide (z ≤ 1099511627776 ∧ bs = ticketB key who z.toNat) ∧ Hid (Below (w5.alloc (.cells #[.int .i64 z] 3)).heap.size (w5.alloc (.cells #[.int .i64 z] 3)) w')) enter37
    ((openQ_any E t u _ a b w5.heap.size K kn kc who z key T 32 d bs _ hE6 (HK.out.below hB6) k0 k1 ht6.len (by decide) ht6.rd (by rw [← HZ.out]; omega) ga gb gc).mono fun e w' ⟨he, hw⟩ => ⟨_, he, rfl, hw⟩)
  have HQ : Hid (Calls Tryd.prog 36 #[.slice T 32 d, .func (.func 37) #[] #[.pointer (some ⟨a, 0, none⟩), .pointer (some ⟨b, 0, none⟩), .pointer (some ⟨w5.heap.size, 0, none⟩)], .iface tp up] (w5.alloc (.cells #[.int .i64 z] 3)) fun e w' => e = .panicked [{ v := .iface 81 (.agg #[.iface tp up]), recovered := false }] ∧ Hid (Below w.heap.size w w')) := Lib.hid (hQ.mono fun e w' ⟨x, he, hx, hb⟩ => by
    rw [decide_eq_false (by rw [← HZ.out]; intro h; exact hno ⟨by omega, h.2⟩)] at hx
    subst hx
    exact ⟨he, Lib.hid (hB6.trans (hb.out.mono hB6.size))⟩)
  clear hQ ht6 hE6 gc gb ga hr6 hbb hB6 hno HT HK HE
  go_wp2_with fail
  with_reducible refine HQ.out.mono ?_
  rintro e w7 ⟨rfl, HB7⟩
  go_wp2_with fail
  exact ⟨rfl, rfl, HB7.out⟩
set_option maxRecDepth 100000 in
theorem openC_yes (E : Nat → Value) (t : TypeId) (u ep : Value) (a b c : Nat) (K : Option Addr) (kn kc : Nat) (who : ByteArray) (T : Option Addr) (d : Nat) (key bs : List UInt8) (w : World) (hE : Env w E (.iface t u) ep)
    (ha : w.cell? ⟨a, 0, none⟩ = some (.slice K kn kc)) (la : a < w.heap.size) (hb : w.cell? ⟨b, 0, none⟩ = some (.string who)) (lb : b < w.heap.size) (hc : w.cell? ⟨c, 0, none⟩ = some (.slice T 32 d)) (lc : c < w.heap.size) (hk : KeyAt w K kn kc key) (ht : KeyAt w T 32 d bs) (k0 : 1 ≤ kn ∧ kn ≤ 64) (k1 : 1 ≤ who.size ∧ who.size ≤ 16) (hgood : F.num (bs.take 8) ≤ 9223372036854775807) (hyes : F.num (bs.take 8) ≤ 1099511627776 ∧ bs = ticketB key who (F.num (bs.take 8))) :
    Calls Tryd.prog 34 #[.pointer (some ⟨a, 0, none⟩), .pointer (some ⟨b, 0, none⟩), .pointer (some ⟨c, 0, none⟩)] w fun e w' => ∃ v, e = .returned v ∧ Hid (v = .int .i64 (F.num (bs.take 8) : Int) ∧ Below w.heap.size w w') := by
  have h0 := hE.tab.1
  have HE := Lib.hid hE
  have HK := Lib.hid hk
  have HT := Lib.hid ht
  clear hk ht
  obtain ⟨tp, up, rfl⟩ := HE.out.er.p_
  have Ha := Lib.hid ha
  have Hb := Lib.hid hb
  have Hc := Lib.hid hc
  clear hE ha hb hc
  have HB0 := Lib.hid (Below.refl w.heap.size w)
  have c0 := Ha.out
  go_enter Tryd.func34, Tryd.ntmps34
  go_wp2_with fail
  have hs0 := askSecret_any K kn kc _ _ w HE.out.er (by have := HB0.out.size; omega)
  rw [decide_eq_true k0] at hs0
  simp only [asked, if_true] at hs0
  refine hs0.mono ?_
  rintro e w1 ⟨rfl, HW⟩
  have HB1 := Lib.hid (HB0.out.trans (HW.out.mono HB0.out.size))
  clear HW hs0 c0 HB0
  have c1 := (HB1.out.cell (p := ⟨b, 0, none⟩) lb).trans Hb.out
  go_wp2_with fail
  have hs1 := askName_any who _ _ w1 (HE.out.below h0 HB1.out).er (by have := HB1.out.size; omega)
  rw [decide_eq_true k1] at hs1
  simp only [asked, if_true] at hs1
  refine hs1.mono ?_
  rintro e w2 ⟨rfl, HW⟩
  have HB2 := Lib.hid (HB1.out.trans (HW.out.mono HB1.out.size))
  clear HW hs1 c1 HB1
  have da := (HB2.out.cell (p := ⟨a, 0, none⟩) la).trans Ha.out
  have db := (HB2.out.cell (p := ⟨b, 0, none⟩) lb).trans Hb.out
  have dc := (HB2.out.cell (p := ⟨c, 0, none⟩) lc).trans Hc.out
  clear Ha Hb Hc
  have la2 : a < w2.heap.size := Nat.lt_of_lt_of_le la HB2.out.size
  have lb2 : b < w2.heap.size := Nat.lt_of_lt_of_le lb HB2.out.size
  have lc2 : c < w2.heap.size := Nat.lt_of_lt_of_le lc HB2.out.size
  have ht2 := HT.out.below HB2.out
  have hE2 := HE.out.below h0 HB2.out
  have hl := linkIn_ok E _ tp up T d bs w2 hE2 ht2.len ht2.cap ht2.max ht2.rd hgood
  clear ht2 hE2
  go_wp2_with fail
  refine hl.mono ?_
  rintro e w5 ⟨rfl, hb5⟩
  have HB5 := Lib.hid (HB2.out.trans (hb5.mono HB2.out.size))
  have da5 := (hb5.cell (p := ⟨a, 0, none⟩) la2).trans da
  have db5 := (hb5.cell (p := ⟨b, 0, none⟩) lb2).trans db
  have dc5 := (hb5.cell (p := ⟨c, 0, none⟩) lc2).trans dc
  have hn5 : w2.heap.size ≤ w5.heap.size := hb5.size
  clear hl hb5 da db dc
  generalize hzn : (F.num (bs.take 8) : Int) = z at *
  have HZ := Lib.hid hzn
  clear hzn
  have hmf : ∀ (fn : Fn) (first cap : Array Value) (w : World), (Instr.makeFunc fn first cap).run Tryd.prog w = .ok (.func fn first cap) w := fun _ _ _ _ => rfl
  have hbb := below_alloc' w5 (.cells #[.int .i64 z] 3)
  have hr6 := H.Row.new w5 [.int .i64 z] 3
  have hB6 : Below w.heap.size w (w5.alloc (.cells #[.int .i64 z] 3)) := HB5.out.trans (hbb.mono HB5.out.size)
  have ga := (hbb.cell (p := ⟨a, 0, none⟩) (Nat.lt_of_lt_of_le la2 hn5)).trans da5
  have gb := (hbb.cell (p := ⟨b, 0, none⟩) (Nat.lt_of_lt_of_le lb2 hn5)).trans db5
  have gt := (hbb.cell (p := ⟨c, 0, none⟩) (Nat.lt_of_lt_of_le lc2 hn5)).trans dc5
  have gc : (w5.alloc (.cells #[.int .i64 z] 3)).cell? ⟨w5.heap.size, 0, none⟩ = some (.int .i64 z) := hr6.cell 0
  have hE6 := HE.out.below h0 hB6
  have ge := hE6.er.proof
  have ht6 := HT.out.below hB6
  have hQ := askB 37 #[.pointer (some ⟨a, 0, none⟩), .pointer (some ⟨b, 0, none⟩), .pointer (some ⟨w5.heap.size, 0, none⟩)] (.slice T 32 d) tp up _ (fun x w' => x = decide (z ≤ 1099511627776 ∧ bs = ticketB key who z.toNat) ∧ Hid (Below (w5.alloc (.cells #[.int .i64 z] 3)).heap.size (w5.alloc (.cells #[.int .i64 z] 3)) w')) enter37
    ((openQ_any E t u _ a b w5.heap.size K kn kc who z key T 32 d bs _ hE6 (HK.out.below hB6) k0 k1 ht6.len (by decide) ht6.rd (by rw [← HZ.out]; omega) ga gb gc).mono fun e w' ⟨he, hw⟩ => ⟨_, he, rfl, hw⟩)
  have HQ : Hid (Calls Tryd.prog 36 #[.slice T 32 d, .func (.func 37) #[] #[.pointer (some ⟨a, 0, none⟩), .pointer (some ⟨b, 0, none⟩), .pointer (some ⟨w5.heap.size, 0, none⟩)], .iface tp up] (w5.alloc (.cells #[.int .i64 z] 3)) fun e w' => e = .returned (.tuple #[]) ∧ Hid (Below w.heap.size w w' ∧ w'.cell? ⟨w5.heap.size, 0, none⟩ = some (.int .i64 z))) := Lib.hid (hQ.mono fun e w' ⟨x, he, hx, hb⟩ => by
    rw [decide_eq_true (by rw [← HZ.out]; exact ⟨by have := hyes.1; omega, hyes.2⟩)] at hx
    subst hx
    exact ⟨he, Lib.hid ⟨hB6.trans (hb.out.mono hB6.size), (hb.out.cell (p := ⟨w5.heap.size, 0, none⟩) hr6.lt).trans gc⟩⟩)
  clear hQ ht6 hE6 gc gb ga hr6 hbb hB6 HT HK HE hyes
  go_wp2_with fail
  with_reducible refine HQ.out.mono ?_
  rintro e w7 ⟨rfl, HB7⟩
  have h7 := HB7.out.2
  clear HQ
  go_wp2_with fail
  go_ret
  exact ⟨.int .i64 z, rfl, Lib.hid ⟨by rw [← HZ.out], HB7.out.1⟩⟩
theorem enter34 (a : Array Value) (w : World) : (callFunc 34 a).run Tryd.prog w = .ok (.enter 34 a) w := by kernel_rfl
set_option maxRecDepth 100000 in
theorem open_yes (E : Nat → Value) (t : TypeId) (u ep : Value) (K : Option Addr) (kn kc : Nat) (who : ByteArray) (T : Option Addr) (n d : Nat) (key bs : List UInt8) (m : Nat) (w : World) (hE : Env w E (.iface t u) ep) (hk : KeyAt w K kn kc key) (ht : KeyAt w T n d bs) (k0 : 1 ≤ kn ∧ kn ≤ 64) (k1 : 1 ≤ who.size ∧ who.size ≤ 16) (ho : openB key who bs = some m) :
    Calls Tryd.prog 14 #[.slice K kn kc, .string who, .slice T n d] w fun e w' => ∃ v, e = .returned (.tuple #[v, .nilIface]) ∧ Hid (v = .int .i64 (m : Int) ∧ Below w.heap.size w w') := by
  obtain ⟨hn, hx, rfl⟩ : n = 32 ∧ (F.num (bs.take 8) ≤ 9223372036854775807 ∧ F.num (bs.take 8) ≤ 1099511627776 ∧ bs = ticketB key who (F.num (bs.take 8))) ∧ F.num (bs.take 8) = m := by
    unfold openB at ho
    split at ho
    · rename_i h
      injection ho with ho
      exact ⟨by rw [← ht.len]; exact h.1, ⟨by omega, h.2⟩, ho⟩
    · cases ho
  subst hn
  have hmf : ∀ (fn : Fn) (first cap : Array Value) (w : World), (Instr.makeFunc fn first cap).run Tryd.prog w = .ok (.func fn first cap) w := fun _ _ _ _ => rfl
  have hb := below_three w (.cells #[.slice K kn kc] 22) (.cells #[.string who] 9) (.cells #[.slice T 32 d] 22)
  have hz : ((((w.alloc (.cells #[.slice K kn kc] 22)).alloc (.cells #[.string who] 9)).alloc (.cells #[.slice T 32 d] 22))).heap.size = w.heap.size + 3 := by simp
  have hc := cells_three w (.slice K kn kc) (.string who) (.slice T 32 d) 22 9 22 (.cells #[.nilIface] 30)
  generalize hw1 : (((w.alloc (.cells #[.slice K kn kc] 22)).alloc (.cells #[.string who] 9)).alloc (.cells #[.slice T 32 d] 22)) = w1 at *
  have hb2 : Below w.heap.size w (w1.alloc (.cells #[.nilIface] 30)) := hb.trans ((below_alloc' w1 _).mono hb.size)
  have hz2 : (w1.alloc (.cells #[.nilIface] 30)).heap.size = w1.heap.size + 1 := by simp
  have hA := answerN_ok 34 #[.pointer (some ⟨w.heap.size, 0, none⟩), .pointer (some ⟨w.heap.size + 1, 0, none⟩), .pointer (some ⟨w.heap.size + 2, 0, none⟩)] w1 (fun v w' => v = .int .i64 (F.num (bs.take 8) : Int)) enter34
    ((openC_yes E t u ep w.heap.size (w.heap.size + 1) (w.heap.size + 2) K kn kc who T d key bs _ (hE.below hE.tab.1 hb2) hc.1 (by rw [hz2]; omega) hc.2.1 (by rw [hz2]; omega) hc.2.2 (by rw [hz2]; omega) (hk.below hb2) (ht.below hb2) k0 k1 hx.1 hx.2).mono fun e w' ⟨v, hv, HV⟩ =>
      ⟨v, hv, HV.out.1, by have h := HV.out.2; rwa [hz2] at h⟩)
  have HA : Hid (Calls Tryd.prog 33 #[.func (.func 34) #[] #[.pointer (some ⟨w.heap.size, 0, none⟩), .pointer (some ⟨w.heap.size + 1, 0, none⟩), .pointer (some ⟨w.heap.size + 2, 0, none⟩)]] w1 fun e w' => ∃ v, e = .returned (.tuple #[v, .nilIface]) ∧ Hid (v = .int .i64 (F.num (bs.take 8) : Int) ∧ Below w.heap.size w w')) := Lib.hid (hA.mono fun e w' ⟨v, w2, he, hv, hw, hbl⟩ => by
    refine ⟨v, he, Lib.hid ⟨?_, hb.trans (hbl.mono hb.size)⟩⟩
    exact hv)
  have HW1 := Lib.hid hw1
  clear hA hE hb hz hc hb2 hz2 hw1
  go_enter Tryd.func14, Tryd.ntmps14
  go_wp2_with fail
  rw [HW1.out]
  with_reducible refine HA.out.mono ?_
  rintro e w4 ⟨v, rfl, HV⟩
  go_wp2_with fail
  go_ret2
  exact ⟨_, rfl, HV⟩
set_option maxRecDepth 100000 in
theorem open_range (E : Nat → Value) (t : TypeId) (u ep : Value) (K : Option Addr) (kn kc : Nat) (who : ByteArray) (T : Option Addr) (n d : Nat) (w : World) (hE : Env w E (.iface t u) ep) (hbad : ¬ ((1 ≤ kn ∧ kn ≤ 64) ∧ (1 ≤ who.size ∧ who.size ≤ 16))) :
    Calls Tryd.prog 14 #[.slice K kn kc, .string who, .slice T n d] w fun e w' => e = .returned (.tuple #[.int .i64 0, .iface t u]) ∧ Hid (Below w.heap.size w w') := by
  have hmf : ∀ (fn : Fn) (first cap : Array Value) (w : World), (Instr.makeFunc fn first cap).run Tryd.prog w = .ok (.func fn first cap) w := fun _ _ _ _ => rfl
  have hb := below_three w (.cells #[.slice K kn kc] 22) (.cells #[.string who] 9) (.cells #[.slice T n d] 22)
  have hz : ((((w.alloc (.cells #[.slice K kn kc] 22)).alloc (.cells #[.string who] 9)).alloc (.cells #[.slice T n d] 22))).heap.size = w.heap.size + 3 := by simp
  have hc := cells_three w (.slice K kn kc) (.string who) (.slice T n d) 22 9 22 (.cells #[.nilIface] 30)
  generalize hw1 : (((w.alloc (.cells #[.slice K kn kc] 22)).alloc (.cells #[.string who] 9)).alloc (.cells #[.slice T n d] 22)) = w1 at *
  have hb2 : Below w.heap.size w (w1.alloc (.cells #[.nilIface] 30)) := hb.trans ((below_alloc' w1 _).mono hb.size)
  have hz2 : (w1.alloc (.cells #[.nilIface] 30)).heap.size = w1.heap.size + 1 := by simp
  have hA := answerN_bad 34 #[.pointer (some ⟨w.heap.size, 0, none⟩), .pointer (some ⟨w.heap.size + 1, 0, none⟩), .pointer (some ⟨w.heap.size + 2, 0, none⟩)] t u w1 enter34
    ((openC_bad E t u ep w.heap.size (w.heap.size + 1) (w.heap.size + 2) K kn kc who T n d _ (hE.below hE.tab.1 hb2) hc.1 (by rw [hz2]; omega) hc.2.1 (by rw [hz2]; omega) hc.2.2 (by rw [hz2]; omega) hbad).mono fun e w' ⟨he, hv⟩ =>
      ⟨he, by rwa [hz2] at hv⟩)
  have HA : Hid (Calls Tryd.prog 33 #[.func (.func 34) #[] #[.pointer (some ⟨w.heap.size, 0, none⟩), .pointer (some ⟨w.heap.size + 1, 0, none⟩), .pointer (some ⟨w.heap.size + 2, 0, none⟩)]] w1 fun e w' => e = .returned (.tuple #[.int .i64 0, .iface t u]) ∧ Hid (Below w.heap.size w w')) := Lib.hid (hA.mono fun e w' ⟨he, hbl⟩ =>
    ⟨he, Lib.hid (hb.trans (hbl.mono hb.size))⟩)
  have HW1 := Lib.hid hw1
  clear hA hE hb hz hc hb2 hz2 hw1 hbad
  go_enter Tryd.func14, Tryd.ntmps14
  go_wp2_with fail
  rw [HW1.out]
  with_reducible refine HA.out.mono ?_
  rintro e w4 ⟨rfl, HV⟩
  go_wp2_with fail
  go_ret2
  exact ⟨rfl, HV⟩
set_option maxRecDepth 100000 in
theorem open_no (E : Nat → Value) (t : TypeId) (u : Value) (tp : TypeId) (up : Value) (K : Option Addr) (kn kc : Nat) (who : ByteArray) (T : Option Addr) (n d : Nat) (key bs : List UInt8) (w : World) (hE : Env w E (.iface t u) (.iface tp up)) (hk : KeyAt w K kn kc key) (ht : KeyAt w T n d bs) (k0 : 1 ≤ kn ∧ kn ≤ 64) (k1 : 1 ≤ who.size ∧ who.size ≤ 16) (ho : openB key who bs = none) :
    Calls Tryd.prog 14 #[.slice K kn kc, .string who, .slice T n d] w fun e w' => e = .returned (.tuple #[.int .i64 0, .iface tp up]) ∧ Hid (Below w.heap.size w w') := by
  have hmf : ∀ (fn : Fn) (first cap : Array Value) (w : World), (Instr.makeFunc fn first cap).run Tryd.prog w = .ok (.func fn first cap) w := fun _ _ _ _ => rfl
  have hb := below_three w (.cells #[.slice K kn kc] 22) (.cells #[.string who] 9) (.cells #[.slice T n d] 22)
  have hz : ((((w.alloc (.cells #[.slice K kn kc] 22)).alloc (.cells #[.string who] 9)).alloc (.cells #[.slice T n d] 22))).heap.size = w.heap.size + 3 := by simp
  have hc := cells_three w (.slice K kn kc) (.string who) (.slice T n d) 22 9 22 (.cells #[.nilIface] 30)
  generalize hw1 : (((w.alloc (.cells #[.slice K kn kc] 22)).alloc (.cells #[.string who] 9)).alloc (.cells #[.slice T n d] 22)) = w1 at *
  have hb2 : Below w.heap.size w (w1.alloc (.cells #[.nilIface] 30)) := hb.trans ((below_alloc' w1 _).mono hb.size)
  have hz2 : (w1.alloc (.cells #[.nilIface] 30)).heap.size = w1.heap.size + 1 := by simp
  have hclo : Calls Tryd.prog 34 #[.pointer (some ⟨w.heap.size, 0, none⟩), .pointer (some ⟨w.heap.size + 1, 0, none⟩), .pointer (some ⟨w.heap.size + 2, 0, none⟩)] (w1.alloc (.cells #[.nilIface] 30)) fun e w' => e = .panicked [{ v := .iface 81 (.agg #[.iface tp up]), recovered := false }] ∧ Below (w1.alloc (.cells #[.nilIface] 30)).heap.size (w1.alloc (.cells #[.nilIface] 30)) w' := by
    by_cases hg : n = 32 ∧ F.num (bs.take 8) ≤ 9223372036854775807
    · obtain ⟨rfl, hg⟩ := hg
      refine openC_no E t u _ w.heap.size (w.heap.size + 1) (w.heap.size + 2) K kn kc who T d key bs _ (hE.below hE.tab.1 hb2) hc.1 (by rw [hz2]; omega) hc.2.1 (by rw [hz2]; omega) hc.2.2 (by rw [hz2]; omega) (hk.below hb2) (ht.below hb2) k0 k1 hg ?_
      intro h
      unfold openB at ho
      rw [if_pos ⟨ht.len, h.1, h.2⟩] at ho
      cases ho
    · exact openC_link E t u _ w.heap.size (w.heap.size + 1) (w.heap.size + 2) K kn kc who T n d key bs _ (hE.below hE.tab.1 hb2) hc.1 (by rw [hz2]; omega) hc.2.1 (by rw [hz2]; omega) hc.2.2 (by rw [hz2]; omega) (hk.below hb2) (ht.below hb2) k0 k1 hg
  have hA := answerN_bad 34 #[.pointer (some ⟨w.heap.size, 0, none⟩), .pointer (some ⟨w.heap.size + 1, 0, none⟩), .pointer (some ⟨w.heap.size + 2, 0, none⟩)] tp up w1 enter34
    (hclo.mono fun e w' ⟨he, hv⟩ =>
      ⟨he, by rwa [hz2] at hv⟩)
  have HA : Hid (Calls Tryd.prog 33 #[.func (.func 34) #[] #[.pointer (some ⟨w.heap.size, 0, none⟩), .pointer (some ⟨w.heap.size + 1, 0, none⟩), .pointer (some ⟨w.heap.size + 2, 0, none⟩)]] w1 fun e w' => e = .returned (.tuple #[.int .i64 0, .iface tp up]) ∧ Hid (Below w.heap.size w w')) := Lib.hid (hA.mono fun e w' ⟨he, hbl⟩ =>
    ⟨he, Lib.hid (hb.trans (hbl.mono hb.size))⟩)
  have HW1 := Lib.hid hw1
  clear hA hE hb hz hc hb2 hz2 hw1 hclo
  go_enter Tryd.func14, Tryd.ntmps14
  go_wp2_with fail
  rw [HW1.out]
  with_reducible refine HA.out.mono ?_
  rintro e w4 ⟨rfl, HV⟩
  go_wp2_with fail
  go_ret2
  exact ⟨rfl, HV⟩

set_option maxRecDepth 100000 in
/-- What Right answers. -/
theorem right_any (E : Nat → Value) (t : TypeId) (u ep : Value) (K : Option Addr) (kn kc : Nat) (M : Option Addr) (nn nc : Nat) (who : ByteArray) (T : Option Addr) (n d : Nat) (key nonce bs : List UInt8) (w : World) (hE : Env w E (.iface t u) ep)
    (hk : KeyAt w K kn kc key) (hm : KeyAt w M nn nc nonce) (ht : KeyAt w T n d bs) :
    Calls Tryd.prog 15 #[.slice K kn kc, .slice M nn nc, .string who, .slice T n d] w fun e w' => e = .returned (.bool (decide (((1 ≤ kn ∧ kn ≤ 64) ∧ (16 ≤ nn ∧ nn ≤ 16) ∧ (1 ≤ who.size ∧ who.size ≤ 16)) ∧ bs = proveB key nonce who))) ∧ Hid (Below w.heap.size w w') := by
  have heq : ∀ (w : World), (binOp BinOp.eql 30 .nilIface .nilIface).run Tryd.prog w = .ok (.bool true) w := fun _ => by kernel_rfl
  have heq2 : ∀ (t : TypeId) (u : Value) (w : World), (binOp BinOp.eql 30 (.iface t u) .nilIface).run Tryd.prog w = .ok (.bool false) w := fun _ _ _ => by kernel_rfl
  by_cases k : (1 ≤ kn ∧ kn ≤ 64) ∧ (16 ≤ nn ∧ nn ≤ 16) ∧ (1 ≤ who.size ∧ who.size ≤ 16)
  · have HP := Lib.hid (prove_ok E t u ep K kn kc M nn nc who key nonce w hE hk hm k.1 k.2.1 k.2.2)
    have HT := Lib.hid ht
    clear hE hk hm ht heq2
    go_enter Tryd.func15, Tryd.ntmps15
    go_wp2_with fail
    with_reducible refine HP.out.mono ?_
    rintro e w2 ⟨v, rfl, HV⟩
    obtain ⟨B, c2, rfl, hbl, _, _, hbr, _⟩ := own_sliceN HV.out.1
    have hl := proveB_length key nonce who
    have ht2 := HT.out.below HV.out.2
    have HA := Lib.hid (H.alike_any n 32 d c2 T B bs (proveB key nonce who) w2 ht2.len hl (by have := ht2.cap; have := ht2.max; omega) ht2.rd hbr)
    clear HP hbl hbr hl ht2
    go_wp2_with fail
    with_reducible refine HA.out.mono ?_
    rintro e w3 ⟨rfl, q, rfl⟩
    go_wp2_with fail
    go_ret
    exact ⟨H.ret_bool (by rw [sameB_eq]; exact decide_eq_decide.2 ⟨fun h => ⟨k, h⟩, fun h => h.2⟩), Lib.hid (H.below_drewN HV.out.2 q)⟩
  · have HP := Lib.hid (prove_bad E t u ep K kn kc M nn nc who w hE k)
    clear hE hk hm ht heq
    go_enter Tryd.func15, Tryd.ntmps15
    go_wp2_with fail
    with_reducible refine HP.out.mono ?_
    rintro e w2 ⟨rfl, HV⟩
    go_wp2_with fail
    go_ret
    exact ⟨H.ret_bool (decide_eq_false (fun h => k h.1)).symm, HV⟩
end Go.Proofs.YtchnbknbccpmcaaDoor
