/- What Nonce answers. -/
import Derived.Test.YtchnbknbccpmcaaDoorEnc
namespace Go.Proofs.YtchnbknbccpmcaaDoor
open Go.RowKit
open Go.Proofs.YtchnbknbccpmcaaDoor.H

/-- A key that reads. -/
structure KeyAt (w : World) (K : Option Addr) (n c : Nat) (key : List UInt8) : Prop where
  len : key.length = n
  cap : n ≤ c
  max : c ≤ 9223372036854775807
  rd : H.Rd w w.heap.size K (key.map bv)
theorem KeyAt.below {w w' : World} {K : Option Addr} {n c : Nat} {key : List UInt8} (h : KeyAt w K n c key) (hb : Below w.heap.size w w') : KeyAt w' K n c key :=
  ⟨h.len, h.cap, h.max, (h.rd.below hb).more hb.size⟩

set_option maxRecDepth 100000 in
theorem nonceC_bad (E : Nat → Value) (t : TypeId) (u ep : Value) (K : Option Addr) (kn kc a b : Nat) (z : Int) (w : World) (hE : Env w E (.iface t u) ep)
    (ha : w.cell? ⟨a, 0, none⟩ = some (.slice K kn kc)) (hb : w.cell? ⟨b, 0, none⟩ = some (.int .i64 z)) (hbl : b < w.heap.size)
    (hbad : ¬ ((1 ≤ kn ∧ kn ≤ 64) ∧ (0 ≤ z ∧ z ≤ 1099511627776))) :
    Calls Tryd.prog 24 #[.pointer (some ⟨a, 0, none⟩), .pointer (some ⟨b, 0, none⟩)] w fun e w' => e = .panicked [{ v := .iface 81 (.agg #[.iface t u]), recovered := false }] ∧ Below w.heap.size w w' := by
  have h0 := hE.tab.1
  have hs := askSecret_any K kn kc _ _ w hE.er (by omega)
  have HE := Lib.hid hE
  have HB := Lib.hid hb
  clear hE hb
  go_enter Tryd.func24, Tryd.ntmps24
  go_wp2_with fail
  refine hs.mono ?_
  by_cases h1 : 1 ≤ kn ∧ kn ≤ 64
  · rw [decide_eq_true h1]
    simp only [asked, if_true]
    rintro e w2 ⟨rfl, HW2⟩
    have c2 : w2.cell? ⟨b, 0, none⟩ = some (.int .i64 z) := (HW2.out.cell (p := ⟨b, 0, none⟩) hbl).trans HB.out
    have hn := askNumber_any z _ _ w2 (HE.out.below h0 HW2.out).er
    rw [decide_eq_false (fun h => hbad ⟨h1, h⟩)] at hn
    simp only [asked, Bool.false_eq_true, if_false, thrown] at hn
    clear hs
    go_wp2_with fail
    refine hn.mono ?_
    rintro e w3 ⟨rfl, rfl⟩
    go_wp2_with fail
    exact ⟨rfl, rfl, HW2.out⟩
  · rw [decide_eq_false h1]
    simp only [asked, Bool.false_eq_true, if_false, thrown]
    rintro e w2 ⟨rfl, HW2⟩
    go_wp2_with fail
    exact ⟨rfl, rfl, HW2.out⟩

set_option maxRecDepth 100000 in
theorem nonceC_ok (E : Nat → Value) (t : TypeId) (u ep : Value) (K : Option Addr) (kn kc a b : Nat) (key : List UInt8) (z : Int) (w : World) (hE : Env w E (.iface t u) ep) (hk : KeyAt w K kn kc key)
    (ha : w.cell? ⟨a, 0, none⟩ = some (.slice K kn kc)) (hal : a < w.heap.size) (hb : w.cell? ⟨b, 0, none⟩ = some (.int .i64 z)) (hbl : b < w.heap.size)
    (h1 : 1 ≤ kn ∧ kn ≤ 64) (h2 : 0 ≤ z ∧ z ≤ 1099511627776) :
    Calls Tryd.prog 24 #[.pointer (some ⟨a, 0, none⟩), .pointer (some ⟨b, 0, none⟩)] w fun e w' => ∃ v, e = .returned v ∧ Hid (w'.ownsRow w.heap.size 5 1 v 16 ((nonceB key z.toNat).map bv) ∧ Below w.heap.size w w') := by
  have h0 := hE.tab.1
  have hs := askSecret_any K kn kc _ _ w hE.er (by omega)
  rw [decide_eq_true h1] at hs
  simp only [asked, if_true] at hs
  have HE := Lib.hid hE
  have HB := Lib.hid hb
  have HA := Lib.hid ha
  have HK := Lib.hid hk
  clear hE hb hk
  go_enter Tryd.func24, Tryd.ntmps24
  go_wp2_with fail
  refine hs.mono ?_
  rintro e w2 ⟨rfl, HW2⟩
  clear ha
  have c2 : w2.cell? ⟨b, 0, none⟩ = some (.int .i64 z) := (HW2.out.cell (p := ⟨b, 0, none⟩) hbl).trans HB.out
  have hn := askNumber_any z _ _ w2 (HE.out.below h0 HW2.out).er
  rw [decide_eq_true h2] at hn
  simp only [asked, if_true] at hn
  clear hs
  go_wp2_with fail
  refine hn.mono ?_
  rintro e w3 ⟨rfl, rfl⟩
  have a2 : w3.cell? ⟨a, 0, none⟩ = some (.slice K kn kc) := (HW2.out.cell (p := ⟨a, 0, none⟩) hal).trans HA.out
  clear hn
  have HB3 := Lib.hid (HW2.out.trans ((below_alloc' w3 (.cells #[.int .i64 z, .float .f64 0, .string ⟨#[]⟩] 61)).mono HW2.out.size))
  have hz3 : (w3.alloc (.cells #[.int .i64 z, .float .f64 0, .string ⟨#[]⟩] 61)).heap.size = w3.heap.size + 1 := by simp
  have hk3 := HK.out.below HB3.out
  have hS := sum_any E (.iface t u) ep 16 16 rfl K kn kc key 110 110 rfl ⟨#[113]⟩ 1 (some ⟨w3.heap.size, 0, none⟩) [⟨z, 0, ⟨#[]⟩⟩] _ (HE.out.below h0 HB3.out) (by decide) hk3.len hk3.cap hk3.max (by have := h1.2; omega) hk3.rd
    (by decide) rfl (by rw [hz3]; exact cs_one w3 z ⟨#[]⟩) (by intro x hx; simp only [List.mem_singleton] at hx; subst hx; exact fc_ok z _ h2.1 h2.2 (by decide)) 8 (by decide) (sum_q z h2.1 h2.2) (by decide) (by show (F.encB [113] _).length = 8; rw [enc_q, be_len])
  have HS : Hid (Calls Tryd.prog 27 #[.int .i64 16, .slice K kn kc, .int .u8 110, .string ⟨#[113]⟩, .slice (some ⟨w3.heap.size, 0, none⟩) 1 1] (w3.alloc (.cells #[.int .i64 z, .float .f64 0, .string ⟨#[]⟩] 61)) fun e w' => ∃ v, e = .returned v ∧ Hid (w'.ownsRow w.heap.size 5 1 v 16 ((nonceB key z.toNat).map bv) ∧ Below w.heap.size w w')) := Lib.hid (hS.mono fun e w' ⟨v, hv, HV⟩ => by
    refine ⟨v, hv, Lib.hid ⟨?_, HB3.out.trans (HV.out.2.mono HB3.out.size)⟩⟩
    have h5 := World.ownsRow.mono HV.out.1 HB3.out.size
    rw [show F.encB (⟨#[113]⟩ : ByteArray).data.toList [⟨z, 0, ⟨#[]⟩⟩] = F.be 8 z.toNat from enc_q z 0 ⟨#[]⟩] at h5
    exact h5)
  clear hS hk3 hz3 HB3 HK HB HA HE HW2
  go_wp2_with fail
  with_reducible refine HS.out.mono ?_
  rintro e w4 ⟨v, rfl, HV⟩
  go_wp2_with fail
  go_ret
  exact ⟨_, rfl, HV⟩

theorem enter24 (a : Array Value) (w : World) : (callFunc 24 a).run Tryd.prog w = .ok (.enter 24 a) w := by kernel_rfl
theorem cells_two (w : World) (u v : Value) (s t : TypeId) (o : Obj) : (((w.alloc (.cells #[u] s)).alloc (.cells #[v] t)).alloc o).cell? ⟨w.heap.size, 0, none⟩ = some u ∧ (((w.alloc (.cells #[u] s)).alloc (.cells #[v] t)).alloc o).cell? ⟨w.heap.size + 1, 0, none⟩ = some v := by
  have r1 : H.Row (w.alloc (.cells #[u] s)) w.heap.size s [u] := H.Row.new w [u] s
  have r2 : H.Row ((w.alloc (.cells #[u] s)).alloc (.cells #[v] t)) (w.heap.size + 1) t [v] := by
    have h := H.Row.new (w.alloc (.cells #[u] s)) [v] t
    rwa [World.size_alloc] at h
  exact ⟨((r1.alloc _).alloc o).cell 0, (r2.alloc o).cell 0⟩

set_option maxRecDepth 100000 in
/-- What Nonce answers. -/
theorem nonce_ok (E : Nat → Value) (t : TypeId) (u ep : Value) (K : Option Addr) (kn kc : Nat) (key : List UInt8) (z : Int) (w : World) (hE : Env w E (.iface t u) ep) (hk : KeyAt w K kn kc key)
    (h1 : 1 ≤ kn ∧ kn ≤ 64) (h2 : 0 ≤ z ∧ z ≤ 1099511627776) :
    Calls Tryd.prog 11 #[.slice K kn kc, .int .i64 z] w fun e w' => ∃ v, e = .returned (.tuple #[v, .nilIface]) ∧ Hid (w'.ownsRow w.heap.size 5 1 v 16 ((nonceB key z.toNat).map bv) ∧ Below w.heap.size w w') := by
  have hmf : ∀ (fn : Fn) (first cap : Array Value) (w : World), (Instr.makeFunc fn first cap).run Tryd.prog w = .ok (.func fn first cap) w := fun _ _ _ _ => rfl
  have hb := below_two w (.cells #[.slice K kn kc] 22) (.cells #[.int .i64 z] 3)
  have hz : ((w.alloc (.cells #[.slice K kn kc] 22)).alloc (.cells #[.int .i64 z] 3)).heap.size = w.heap.size + 2 := by simp
  have hc := cells_two w (.slice K kn kc) (.int .i64 z) 22 3 (.cells #[.nilIface] 30)
  generalize hw1 : (w.alloc (.cells #[.slice K kn kc] 22)).alloc (.cells #[.int .i64 z] 3) = w1 at *
  have hb2 : Below w.heap.size w (w1.alloc (.cells #[.nilIface] 30)) := hb.trans ((below_alloc' w1 _).mono hb.size)
  have hz2 : (w1.alloc (.cells #[.nilIface] 30)).heap.size = w1.heap.size + 1 := by simp
  have hA := answerB_ok 24 #[.pointer (some ⟨w.heap.size, 0, none⟩), .pointer (some ⟨w.heap.size + 1, 0, none⟩)] w1 (fun v w' => w'.ownsRow (w1.heap.size + 1) 5 1 v 16 ((nonceB key z.toNat).map bv)) enter24
    ((nonceC_ok E t u ep K kn kc w.heap.size (w.heap.size + 1) key z _ (hE.below hE.tab.1 hb2) (hk.below hb2) hc.1 (by rw [hz2]; omega) hc.2 (by rw [hz2]; omega) h1 h2).mono fun e w' ⟨v, hv, HV⟩ =>
      ⟨v, hv, by have h := HV.out.1; rwa [hz2] at h, by have h := HV.out.2; rwa [hz2] at h⟩)
  have HA : Hid (Calls Tryd.prog 23 #[.func (.func 24) #[] #[.pointer (some ⟨w.heap.size, 0, none⟩), .pointer (some ⟨w.heap.size + 1, 0, none⟩)]] w1 fun e w' => ∃ v, e = .returned (.tuple #[v, .nilIface]) ∧ Hid (w'.ownsRow w.heap.size 5 1 v 16 ((nonceB key z.toNat).map bv) ∧ Below w.heap.size w w')) := Lib.hid (hA.mono fun e w' ⟨v, w2, he, hv, hw, hbl⟩ => by
    refine ⟨v, he, Lib.hid ⟨?_, hb.trans (hbl.mono hb.size)⟩⟩
    rw [hw]
    exact World.ownsRow.mono (ownsRow_setCell_below hv (Nat.lt_succ_self _) _) (by omega))
  have HW1 := Lib.hid hw1
  clear hA hE hk hb hz hc hb2 hz2 hw1
  go_enter Tryd.func11, Tryd.ntmps11
  go_wp2_with fail
  rw [HW1.out]
  with_reducible refine HA.out.mono ?_
  rintro e w4 ⟨v, rfl, HV⟩
  go_wp2_with fail
  go_ret2
  exact ⟨_, rfl, HV⟩
set_option maxRecDepth 100000 in
theorem nonce_bad (E : Nat → Value) (t : TypeId) (u ep : Value) (K : Option Addr) (kn kc : Nat) (z : Int) (w : World) (hE : Env w E (.iface t u) ep)
    (hbad : ¬ ((1 ≤ kn ∧ kn ≤ 64) ∧ (0 ≤ z ∧ z ≤ 1099511627776))) :
    Calls Tryd.prog 11 #[.slice K kn kc, .int .i64 z] w fun e w' => e = .returned (.tuple #[.slice none 0 0, .iface t u]) ∧ Hid (Below w.heap.size w w') := by
  have hmf : ∀ (fn : Fn) (first cap : Array Value) (w : World), (Instr.makeFunc fn first cap).run Tryd.prog w = .ok (.func fn first cap) w := fun _ _ _ _ => rfl
  have hb := below_two w (.cells #[.slice K kn kc] 22) (.cells #[.int .i64 z] 3)
  have hz : ((w.alloc (.cells #[.slice K kn kc] 22)).alloc (.cells #[.int .i64 z] 3)).heap.size = w.heap.size + 2 := by simp
  have hc := cells_two w (.slice K kn kc) (.int .i64 z) 22 3 (.cells #[.nilIface] 30)
  generalize hw1 : (w.alloc (.cells #[.slice K kn kc] 22)).alloc (.cells #[.int .i64 z] 3) = w1 at *
  have hb2 : Below w.heap.size w (w1.alloc (.cells #[.nilIface] 30)) := hb.trans ((below_alloc' w1 _).mono hb.size)
  have hz2 : (w1.alloc (.cells #[.nilIface] 30)).heap.size = w1.heap.size + 1 := by simp
  have hA := answerB_bad 24 #[.pointer (some ⟨w.heap.size, 0, none⟩), .pointer (some ⟨w.heap.size + 1, 0, none⟩)] t u w1 enter24
    ((nonceC_bad E t u ep K kn kc w.heap.size (w.heap.size + 1) z _ (hE.below hE.tab.1 hb2) hc.1 hc.2 (by rw [hz2]; omega) hbad).mono fun e w' ⟨he, hv⟩ =>
      ⟨he, by rwa [hz2] at hv⟩)
  have HA : Hid (Calls Tryd.prog 23 #[.func (.func 24) #[] #[.pointer (some ⟨w.heap.size, 0, none⟩), .pointer (some ⟨w.heap.size + 1, 0, none⟩)]] w1 fun e w' => e = .returned (.tuple #[.slice none 0 0, .iface t u]) ∧ Hid (Below w.heap.size w w')) := Lib.hid (hA.mono fun e w' ⟨he, hbl⟩ =>
    ⟨he, Lib.hid (hb.trans (hbl.mono hb.size))⟩)
  have HW1 := Lib.hid hw1
  clear hA hE hb hz hc hb2 hz2 hw1 hbad
  go_enter Tryd.func11, Tryd.ntmps11
  go_wp2_with fail
  rw [HW1.out]
  with_reducible refine HA.out.mono ?_
  rintro e w4 ⟨rfl, HV⟩
  go_wp2_with fail
  go_ret2
  exact ⟨rfl, HV⟩
end Go.Proofs.YtchnbknbccpmcaaDoor
