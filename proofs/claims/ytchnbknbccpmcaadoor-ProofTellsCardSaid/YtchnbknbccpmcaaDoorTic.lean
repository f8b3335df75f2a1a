/- What Ticket answers. -/
import Derived.Test.YtchnbknbccpmcaaDoorPrv
namespace Go.Proofs.YtchnbknbccpmcaaDoor
open Go.RowKit
open Go.Proofs.YtchnbknbccpmcaaDoor.H

set_option maxRecDepth 100000 in
theorem ticketC_bad (E : Nat → Value) (t : TypeId) (u ep : Value) (a b c : Nat) (K : Option Addr) (kn kc : Nat) (who : ByteArray) (z : Int) (w : World) (hE : Env w E (.iface t u) ep)
    (ha : w.cell? ⟨a, 0, none⟩ = some (.slice K kn kc)) (_la : a < w.heap.size) (hb : w.cell? ⟨b, 0, none⟩ = some (.string who)) (lb : b < w.heap.size) (hc : w.cell? ⟨c, 0, none⟩ = some (.int .i64 z)) (lc : c < w.heap.size) (hbad : ¬ ((1 ≤ kn ∧ kn ≤ 64) ∧ (1 ≤ who.size ∧ who.size ≤ 16) ∧ (0 ≤ z ∧ z ≤ 1099511627776))) :
    Calls Tryd.prog 31 #[.pointer (some ⟨a, 0, none⟩), .pointer (some ⟨b, 0, none⟩), .pointer (some ⟨c, 0, none⟩)] w fun e w' => e = .panicked [{ v := .iface 81 (.agg #[.iface t u]), recovered := false }] ∧ Below w.heap.size w w' := by
  have h0 := hE.tab.1
  have HE := Lib.hid hE
  have Ha := Lib.hid ha
  have Hb := Lib.hid hb
  have Hc := Lib.hid hc
  clear hE ha hb hc
  have HB0 := Lib.hid (Below.refl w.heap.size w)
  have c0 := Ha.out
  go_enter Tryd.func31, Tryd.ntmps31
  go_wp2_with fail
  have hs0 := askSecret_any K kn kc _ _ w HE.out.er (by have := HB0.out.size; omega)
  by_cases k0 : (1 ≤ kn ∧ kn ≤ 64)
  rotate_left
  · clear hbad
    rw [decide_eq_false k0] at hs0
    simp only [asked, Bool.false_eq_true, if_false, thrown] at hs0
    refine hs0.mono ?_
    rintro e w9 ⟨rfl, HW⟩
    go_wp2_with fail
    exact ⟨rfl, rfl, HB0.out.trans (HW.out.mono HB0.out.size)⟩
  rw [decide_eq_true k0] at hs0
  simp only [asked, if_true] at hs0
  refine hs0.mono ?_
  rintro e w1 ⟨rfl, HW⟩
  have HB1 := Lib.hid (HB0.out.trans (HW.out.mono HB0.out.size))
  clear HW hs0 c0
  have c1 := (HB1.out.cell (p := ⟨b, 0, none⟩) lb).trans Hb.out
  go_wp2_with fail
  have hs1 := askName_any who _ _ w1 (HE.out.below h0 HB1.out).er (by have := HB1.out.size; omega)
  by_cases k1 : (1 ≤ who.size ∧ who.size ≤ 16)
  rotate_left
  · clear hbad
    rw [decide_eq_false k1] at hs1
    simp only [asked, Bool.false_eq_true, if_false, thrown] at hs1
    refine hs1.mono ?_
    rintro e w9 ⟨rfl, HW⟩
    go_wp2_with fail
    exact ⟨rfl, rfl, HB1.out.trans (HW.out.mono HB1.out.size)⟩
  rw [decide_eq_true k1] at hs1
  simp only [asked, if_true] at hs1
  refine hs1.mono ?_
  rintro e w2 ⟨rfl, HW⟩
  have HB2 := Lib.hid (HB1.out.trans (HW.out.mono HB1.out.size))
  clear HW hs1 c1
  have c2 := (HB2.out.cell (p := ⟨c, 0, none⟩) lc).trans Hc.out
  go_wp2_with fail
  have hs2 := askNumber_any z _ _ w2 (HE.out.below h0 HB2.out).er
  rw [decide_eq_false (fun h => hbad ⟨k0, k1, h⟩)] at hs2
  simp only [asked, Bool.false_eq_true, if_false, thrown] at hs2
  refine hs2.mono ?_
  rintro e w9 ⟨rfl, rfl⟩
  go_wp2_with fail
  exact ⟨rfl, rfl, HB2.out⟩
set_option maxRecDepth 100000 in
theorem ticketC_ok (E : Nat → Value) (t : TypeId) (u ep : Value) (a b c : Nat) (K : Option Addr) (kn kc : Nat) (who : ByteArray) (z : Int) (key : List UInt8) (w : World) (hE : Env w E (.iface t u) ep)
    (ha : w.cell? ⟨a, 0, none⟩ = some (.slice K kn kc)) (la : a < w.heap.size) (hb : w.cell? ⟨b, 0, none⟩ = some (.string who)) (lb : b < w.heap.size) (hc : w.cell? ⟨c, 0, none⟩ = some (.int .i64 z)) (lc : c < w.heap.size) (hk : KeyAt w K kn kc key) (k0 : 1 ≤ kn ∧ kn ≤ 64) (k1 : 1 ≤ who.size ∧ who.size ≤ 16) (k2 : 0 ≤ z ∧ z ≤ 1099511627776) :
    Calls Tryd.prog 31 #[.pointer (some ⟨a, 0, none⟩), .pointer (some ⟨b, 0, none⟩), .pointer (some ⟨c, 0, none⟩)] w fun e w' => ∃ v, e = .returned v ∧ Hid (w'.ownsRow w.heap.size 5 1 v 32 ((ticketB key who z.toNat).map bv) ∧ Below w.heap.size w w') := by
  have h0 := hE.tab.1
  have HE := Lib.hid hE
  have HK := Lib.hid hk
  clear hk
  have Ha := Lib.hid ha
  have Hb := Lib.hid hb
  have Hc := Lib.hid hc
  clear hE ha hb hc
  have HB0 := Lib.hid (Below.refl w.heap.size w)
  have c0 := Ha.out
  go_enter Tryd.func31, Tryd.ntmps31
  go_wp2_with fail
  have hs0 := askSecret_any K kn kc _ _ w HE.out.er (by have := HB0.out.size; omega)
  rw [decide_eq_true k0] at hs0
  simp only [asked, if_true] at hs0
  refine hs0.mono ?_
  rintro e w1 ⟨rfl, HW⟩
  have HB1 := Lib.hid (HB0.out.trans (HW.out.mono HB0.out.size))
  clear HW hs0 c0 HB0
  have c1 := (HB1.out.cell (p := ⟨b, 0, none⟩) lb).trans Hb.out
  go_wp2_with fail
  have hs1 := askName_any who _ _ w1 (HE.out.below h0 HB1.out).er (by have := HB1.out.size; omega)
  rw [decide_eq_true k1] at hs1
  simp only [asked, if_true] at hs1
  refine hs1.mono ?_
  rintro e w2 ⟨rfl, HW⟩
  have HB2 := Lib.hid (HB1.out.trans (HW.out.mono HB1.out.size))
  clear HW hs1 c1 HB1
  have c2 := (HB2.out.cell (p := ⟨c, 0, none⟩) lc).trans Hc.out
  go_wp2_with fail
  have hs2 := askNumber_any z _ _ w2 (HE.out.below h0 HB2.out).er
  rw [decide_eq_true k2] at hs2
  simp only [asked, if_true] at hs2
  refine hs2.mono ?_
  rintro e w3 ⟨rfl, HW⟩
  subst HW
  have HB3 := HB2
  clear hs2 c2 HB2
  have da := (HB3.out.cell (p := ⟨a, 0, none⟩) la).trans Ha.out
  have db := (HB3.out.cell (p := ⟨b, 0, none⟩) lb).trans Hb.out
  have dc := (HB3.out.cell (p := ⟨c, 0, none⟩) lc).trans Hc.out
  clear Ha Hb Hc
  have HBn := Lib.hid (HB3.out.trans ((below_alloc' w3 (.cells #[.int .i64 z, .float .f64 0, .string ⟨#[]⟩] 61)).mono HB3.out.size))
  have hzn : (w3.alloc (.cells #[.int .i64 z, .float .f64 0, .string ⟨#[]⟩] 61)).heap.size = w3.heap.size + 1 := by simp
  have HN : Hid (Calls Tryd.prog 32 #[.string ⟨#[113]⟩, .slice (some ⟨w3.heap.size, 0, none⟩) 1 1] (w3.alloc (.cells #[.int .i64 z, .float .f64 0, .string ⟨#[]⟩] 61)) fun e w' => ∃ v, e = .returned v ∧ Hid (w'.ownsRow w.heap.size 5 1 v 8 ((F.be 8 z.toNat).map bv) ∧ Below w.heap.size w w' ∧ Below w3.heap.size w3 w')) := Lib.hid ((encoded_any E _ _ ⟨#[113]⟩ 1 (some ⟨w3.heap.size, 0, none⟩) [⟨z, 0, ⟨#[]⟩⟩] _ (HE.out.below h0 HBn.out) (by decide) rfl (by rw [hzn]; exact cs_one w3 z ⟨#[]⟩) (by intro x hx; simp only [List.mem_singleton] at hx; subst hx; exact fc_ok z _ k2.1 k2.2 (by decide)) 8 (by decide) (sum_q z k2.1 k2.2) (by decide)).mono fun e w' ⟨v, hv, HV⟩ => by
    have h5 := World.ownsRow.mono HV.out.1 HBn.out.size
    rw [show F.encB (⟨#[113]⟩ : ByteArray).data.toList [⟨z, 0, ⟨#[]⟩⟩] = F.be 8 z.toNat from enc_q z 0 ⟨#[]⟩, be_len] at h5
    exact ⟨v, hv, Lib.hid ⟨h5, HBn.out.trans (HV.out.2.mono HBn.out.size), (below_alloc' w3 _).trans (HV.out.2.mono (by rw [hzn]; omega))⟩⟩)
  clear HBn hzn
  go_wp2_with fail
  with_reducible refine HN.out.mono ?_
  rintro e w5 ⟨v5, rfl, HV5⟩
  have la2 : a < w3.heap.size := Nat.lt_of_lt_of_le la HB3.out.size
  have lb2 : b < w3.heap.size := Nat.lt_of_lt_of_le lb HB3.out.size
  have lc2 : c < w3.heap.size := Nat.lt_of_lt_of_le lc HB3.out.size
  have ea := (HV5.out.2.2.cell (p := ⟨a, 0, none⟩) la2).trans da
  have eb := (HV5.out.2.2.cell (p := ⟨b, 0, none⟩) lb2).trans db
  have ec := (HV5.out.2.2.cell (p := ⟨c, 0, none⟩) lc2).trans dc
  clear HN da db dc la2 lb2 lc2
  have HB5 := Lib.hid HV5.out.2.1
  have HB6 := Lib.hid (HB5.out.trans ((below_alloc' w5 (.cells #[.int .i64 0, .float .f64 0, .string who, .int .i64 z, .float .f64 0, .string ⟨#[]⟩] 61)).mono HB5.out.size))
  have hz6 : (w5.alloc (.cells #[.int .i64 0, .float .f64 0, .string who, .int .i64 z, .float .f64 0, .string ⟨#[]⟩] 61)).heap.size = w5.heap.size + 1 := by simp
  have hk6 := HK.out.below HB6.out
  have hS := sum_any E (.iface t u) ep 24 24 rfl K kn kc key 116 116 rfl ⟨#[116, 113]⟩ 2 (some ⟨w5.heap.size, 0, none⟩) [⟨0, 0, who⟩, ⟨z, 0, ⟨#[]⟩⟩] _ (HE.out.below h0 HB6.out) (by decide) hk6.len hk6.cap hk6.max (by have := k0.2; omega) hk6.rd
    (by decide) rfl (by rw [hz6]; exact cs_two w5 0 z who _) (by intro x hx; simp only [List.mem_cons, List.not_mem_nil, or_false] at hx; rcases hx with rfl | rfl; exact fc_ok 0 _ (by decide) (by decide) k1.2; exact fc_ok z _ k2.1 k2.2 (by decide)) (9 + who.size) (by decide) (sum_tq z who k1.2 k2.1 k2.2) (by have := k1.2; omega)
    (by show (F.encB [116, 113] _).length = _; rw [enc_tq]; simp only [List.length_append, be_len]; rw [Array.length_toList]; show 1 + who.size + 8 = 9 + who.size; omega)
  have HS : Hid (Calls Tryd.prog 27 #[.int .i64 24, .slice K kn kc, .int .u8 116, .string ⟨#[116, 113]⟩, .slice (some ⟨w5.heap.size, 0, none⟩) 2 2] (w5.alloc (.cells #[.int .i64 0, .float .f64 0, .string who, .int .i64 z, .float .f64 0, .string ⟨#[]⟩] 61)) fun e w' => ∃ v, e = .returned v ∧ Hid (w'.ownsRow w.heap.size 5 1 v 24 ((sealB key who z.toNat).map bv) ∧ Below w.heap.size w w' ∧ Below w5.heap.size w5 w')) := Lib.hid (hS.mono fun e w' ⟨v, hv, HV⟩ => by
    have h5 := World.ownsRow.mono HV.out.1 HB6.out.size
    rw [show F.encB (⟨#[116, 113]⟩ : ByteArray).data.toList [⟨0, 0, who⟩, ⟨z, 0, ⟨#[]⟩⟩] = _ from enc_tq z who] at h5
    exact ⟨v, hv, Lib.hid ⟨h5, HB6.out.trans (HV.out.2.mono HB6.out.size), (below_alloc' w5 _).trans (HV.out.2.mono (by rw [hz6]; omega))⟩⟩)
  clear hS hk6 hz6 HB6 HK HE
  go_wp2_with fail
  with_reducible refine HS.out.mono ?_
  rintro e w7 ⟨v7, rfl, HV7⟩
  obtain ⟨B, d, rfl, hbl, _, _, hbr, hbb⟩ := own_sliceN HV7.out.1
  have HO5 := Lib.hid (own_below HV5.out.1 HV7.out.2.2)
  have HRB := Lib.hid hbr
  have hsb := sealB_length key who z.toNat
  have hws := HV7.out.2.1.size
  clear HV5 HS hbl hbr hbb
  go_wp2_with (first
    | (refine H.wl_append rfl (.tmp 23) (.tmp 24) rfl w.heap.size v5 8 _ rfl HO5.out w7.heap.size B 24 d (sealB key who z.toNat) rfl hsb HRB.out (by decide) hws ?_
       intro v8 w8 HV8))
  go_ret
  refine ⟨_, rfl, Lib.hid ⟨?_, HV7.out.2.1.trans (grown_below HV8.out.2 hws (fun g hg => (HO5.out.lt g hg).1))⟩⟩
  have h8 := HV8.out.1
  have e9 : List.map bv (F.be 8 z.toNat) ++ List.map H.bv (sealB key who z.toNat) = (ticketB key who z.toNat).map bv := (List.map_append (f := bv) (l₁ := F.be 8 z.toNat) (l₂ := sealB key who z.toNat)).symm
  rw [e9] at h8
  exact h8
theorem enter31 (a : Array Value) (w : World) : (callFunc 31 a).run Tryd.prog w = .ok (.enter 31 a) w := by kernel_rfl
set_option maxRecDepth 100000 in
theorem ticket_ok (E : Nat → Value) (t : TypeId) (u ep : Value) (K : Option Addr) (kn kc : Nat) (who : ByteArray) (z : Int) (key : List UInt8) (w : World) (hE : Env w E (.iface t u) ep) (hk : KeyAt w K kn kc key) (k0 : 1 ≤ kn ∧ kn ≤ 64) (k1 : 1 ≤ who.size ∧ who.size ≤ 16) (k2 : 0 ≤ z ∧ z ≤ 1099511627776) :
    Calls Tryd.prog 13 #[.slice K kn kc, .string who, .int .i64 z] w fun e w' => ∃ v, e = .returned (.tuple #[v, .nilIface]) ∧ Hid (w'.ownsRow w.heap.size 5 1 v 32 ((ticketB key who z.toNat).map bv) ∧ Below w.heap.size w w') := by
  have hmf : ∀ (fn : Fn) (first cap : Array Value) (w : World), (Instr.makeFunc fn first cap).run Tryd.prog w = .ok (.func fn first cap) w := fun _ _ _ _ => rfl
  have hb := below_three w (.cells #[.slice K kn kc] 22) (.cells #[.string who] 9) (.cells #[.int .i64 z] 3)
  have hz : ((((w.alloc (.cells #[.slice K kn kc] 22)).alloc (.cells #[.string who] 9)).alloc (.cells #[.int .i64 z] 3))).heap.size = w.heap.size + 3 := by simp
  have hc := cells_three w (.slice K kn kc) (.string who) (.int .i64 z) 22 9 3 (.cells #[.nilIface] 30)
  generalize hw1 : (((w.alloc (.cells #[.slice K kn kc] 22)).alloc (.cells #[.string who] 9)).alloc (.cells #[.int .i64 z] 3)) = w1 at *
  have hb2 : Below w.heap.size w (w1.alloc (.cells #[.nilIface] 30)) := hb.trans ((below_alloc' w1 _).mono hb.size)
  have hz2 : (w1.alloc (.cells #[.nilIface] 30)).heap.size = w1.heap.size + 1 := by simp
  have hA := answerB_ok 31 #[.pointer (some ⟨w.heap.size, 0, none⟩), .pointer (some ⟨w.heap.size + 1, 0, none⟩), .pointer (some ⟨w.heap.size + 2, 0, none⟩)] w1 (fun v w' => w'.ownsRow (w1.heap.size + 1) 5 1 v 32 ((ticketB key who z.toNat).map bv)) enter31
    ((ticketC_ok E t u ep w.heap.size (w.heap.size + 1) (w.heap.size + 2) K kn kc who z key _ (hE.below hE.tab.1 hb2) hc.1 (by rw [hz2]; omega) hc.2.1 (by rw [hz2]; omega) hc.2.2 (by rw [hz2]; omega) (hk.below hb2) k0 k1 k2).mono fun e w' ⟨v, hv, HV⟩ =>
      ⟨v, hv, by have h := HV.out.1; rwa [hz2] at h, by have h := HV.out.2; rwa [hz2] at h⟩)
  have HA : Hid (Calls Tryd.prog 23 #[.func (.func 31) #[] #[.pointer (some ⟨w.heap.size, 0, none⟩), .pointer (some ⟨w.heap.size + 1, 0, none⟩), .pointer (some ⟨w.heap.size + 2, 0, none⟩)]] w1 fun e w' => ∃ v, e = .returned (.tuple #[v, .nilIface]) ∧ Hid (w'.ownsRow w.heap.size 5 1 v 32 ((ticketB key who z.toNat).map bv) ∧ Below w.heap.size w w')) := Lib.hid (hA.mono fun e w' ⟨v, w2, he, hv, hw, hbl⟩ => by
    refine ⟨v, he, Lib.hid ⟨?_, hb.trans (hbl.mono hb.size)⟩⟩
    rw [hw]
    exact World.ownsRow.mono (ownsRow_setCell_below hv (Nat.lt_succ_self _) _) (by omega))
  have HW1 := Lib.hid hw1
  clear hA hE hb hz hc hb2 hz2 hw1
  go_enter Tryd.func13, Tryd.ntmps13
  go_wp2_with fail
  rw [HW1.out]
  with_reducible refine HA.out.mono ?_
  rintro e w4 ⟨v, rfl, HV⟩
  go_wp2_with fail
  go_ret2
  exact ⟨_, rfl, HV⟩
set_option maxRecDepth 100000 in
theorem ticket_bad (E : Nat → Value) (t : TypeId) (u ep : Value) (K : Option Addr) (kn kc : Nat) (who : ByteArray) (z : Int) (w : World) (hE : Env w E (.iface t u) ep) (hbad : ¬ ((1 ≤ kn ∧ kn ≤ 64) ∧ (1 ≤ who.size ∧ who.size ≤ 16) ∧ (0 ≤ z ∧ z ≤ 1099511627776))) :
    Calls Tryd.prog 13 #[.slice K kn kc, .string who, .int .i64 z] w fun e w' => e = .returned (.tuple #[.slice none 0 0, .iface t u]) ∧ Hid (Below w.heap.size w w') := by
  have hmf : ∀ (fn : Fn) (first cap : Array Value) (w : World), (Instr.makeFunc fn first cap).run Tryd.prog w = .ok (.func fn first cap) w := fun _ _ _ _ => rfl
  have hb := below_three w (.cells #[.slice K kn kc] 22) (.cells #[.string who] 9) (.cells #[.int .i64 z] 3)
  have hz : ((((w.alloc (.cells #[.slice K kn kc] 22)).alloc (.cells #[.string who] 9)).alloc (.cells #[.int .i64 z] 3))).heap.size = w.heap.size + 3 := by simp
  have hc := cells_three w (.slice K kn kc) (.string who) (.int .i64 z) 22 9 3 (.cells #[.nilIface] 30)
  generalize hw1 : (((w.alloc (.cells #[.slice K kn kc] 22)).alloc (.cells #[.string who] 9)).alloc (.cells #[.int .i64 z] 3)) = w1 at *
  have hb2 : Below w.heap.size w (w1.alloc (.cells #[.nilIface] 30)) := hb.trans ((below_alloc' w1 _).mono hb.size)
  have hz2 : (w1.alloc (.cells #[.nilIface] 30)).heap.size = w1.heap.size + 1 := by simp
  have hA := answerB_bad 31 #[.pointer (some ⟨w.heap.size, 0, none⟩), .pointer (some ⟨w.heap.size + 1, 0, none⟩), .pointer (some ⟨w.heap.size + 2, 0, none⟩)] t u w1 enter31
    ((ticketC_bad E t u ep w.heap.size (w.heap.size + 1) (w.heap.size + 2) K kn kc who z _ (hE.below hE.tab.1 hb2) hc.1 (by rw [hz2]; omega) hc.2.1 (by rw [hz2]; omega) hc.2.2 (by rw [hz2]; omega) hbad).mono fun e w' ⟨he, hv⟩ =>
      ⟨he, by rwa [hz2] at hv⟩)
  have HA : Hid (Calls Tryd.prog 23 #[.func (.func 31) #[] #[.pointer (some ⟨w.heap.size, 0, none⟩), .pointer (some ⟨w.heap.size + 1, 0, none⟩), .pointer (some ⟨w.heap.size + 2, 0, none⟩)]] w1 fun e w' => e = .returned (.tuple #[.slice none 0 0, .iface t u]) ∧ Hid (Below w.heap.size w w')) := Lib.hid (hA.mono fun e w' ⟨he, hbl⟩ =>
    ⟨he, Lib.hid (hb.trans (hbl.mono hb.size))⟩)
  have HW1 := Lib.hid hw1
  clear hA hE hb hz hc hb2 hz2 hw1 hbad
  go_enter Tryd.func13, Tryd.ntmps13
  go_wp2_with fail
  rw [HW1.out]
  with_reducible refine HA.out.mono ?_
  rintro e w4 ⟨rfl, HV⟩
  go_wp2_with fail
  go_ret2
  exact ⟨rfl, HV⟩
end Go.Proofs.YtchnbknbccpmcaaDoor
