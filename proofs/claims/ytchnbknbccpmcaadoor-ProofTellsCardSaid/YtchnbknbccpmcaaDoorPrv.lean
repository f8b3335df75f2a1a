/- What Prove answers. -/
import Derived.Test.YtchnbknbccpmcaaDoorNon
namespace Go.Proofs.YtchnbknbccpmcaaDoor
open Go.RowKit
open Go.Proofs.YtchnbknbccpmcaaDoor.H

theorem below_three (w : World) (a b c : Obj) : Below w.heap.size w (((w.alloc a).alloc b).alloc c) := (below_two w a b).trans ((below_alloc' _ c).mono (below_two w a b).size)
theorem cells_three (w : World) (u v x : Value) (r s t : TypeId) (o : Obj) : ((((w.alloc (.cells #[u] r)).alloc (.cells #[v] s)).alloc (.cells #[x] t)).alloc o).cell? ⟨w.heap.size, 0, none⟩ = some u ∧ ((((w.alloc (.cells #[u] r)).alloc (.cells #[v] s)).alloc (.cells #[x] t)).alloc o).cell? ⟨w.heap.size + 1, 0, none⟩ = some v ∧ ((((w.alloc (.cells #[u] r)).alloc (.cells #[v] s)).alloc (.cells #[x] t)).alloc o).cell? ⟨w.heap.size + 2, 0, none⟩ = some x := by
  have r1 : H.Row (w.alloc (.cells #[u] r)) w.heap.size r [u] := H.Row.new w [u] r
  have r2 : H.Row ((w.alloc (.cells #[u] r)).alloc (.cells #[v] s)) (w.heap.size + 1) s [v] := by
    have h := H.Row.new (w.alloc (.cells #[u] r)) [v] s
    rwa [World.size_alloc] at h
  have r3 : H.Row (((w.alloc (.cells #[u] r)).alloc (.cells #[v] s)).alloc (.cells #[x] t)) (w.heap.size + 2) t [x] := by
    have h := H.Row.new ((w.alloc (.cells #[u] r)).alloc (.cells #[v] s)) [x] t
    rwa [World.size_alloc, World.size_alloc] at h
  exact ⟨(((r1.alloc _).alloc _).alloc o).cell 0, ((r2.alloc _).alloc o).cell 0, (r3.alloc o).cell 0⟩
set_option maxRecDepth 100000 in
theorem proveC_bad (E : Nat → Value) (t : TypeId) (u ep : Value) (a b c : Nat) (K : Option Addr) (kn kc : Nat) (M : Option Addr) (nn nc : Nat) (who : ByteArray) (w : World) (hE : Env w E (.iface t u) ep)
    (ha : w.cell? ⟨a, 0, none⟩ = some (.slice K kn kc)) (_la : a < w.heap.size) (hb : w.cell? ⟨b, 0, none⟩ = some (.slice M nn nc)) (lb : b < w.heap.size) (hc : w.cell? ⟨c, 0, none⟩ = some (.string who)) (lc : c < w.heap.size) (hbad : ¬ ((1 ≤ kn ∧ kn ≤ 64) ∧ (16 ≤ nn ∧ nn ≤ 16) ∧ (1 ≤ who.size ∧ who.size ≤ 16))) :
    Calls Tryd.prog 28 #[.pointer (some ⟨a, 0, none⟩), .pointer (some ⟨b, 0, none⟩), .pointer (some ⟨c, 0, none⟩)] w fun e w' => e = .panicked [{ v := .iface 81 (.agg #[.iface t u]), recovered := false }] ∧ Below w.heap.size w w' := by
  have h0 := hE.tab.1
  have HE := Lib.hid hE
  have Ha := Lib.hid ha
  have Hb := Lib.hid hb
  have Hc := Lib.hid hc
  clear hE ha hb hc
  have HB0 := Lib.hid (Below.refl w.heap.size w)
  have c0 := Ha.out
  go_enter Tryd.func28, Tryd.ntmps28
  go_wp2_with fail
  have hs0 := askSecret_any K kn kc _ _ w HE.out.er (by have := HB0.out.size; omega)
  by_cases k0 : (1 ≤ kn ∧ kn ≤ 64)
  rotate_left
  · clear hbad
    rw [decide_eq_false k0] at hs0
    simp only [asked, Bool.false_eq_true, if_false, thrown] at hs0
    refine hs0.mono ?_
    rintro e w9 ⟨rfl, HW⟩
    go_wp2_with fail
    exact ⟨rfl, rfl, HB0.out.trans (HW.out.mono HB0.out.size)⟩
  rw [decide_eq_true k0] at hs0
  simp only [asked, if_true] at hs0
  refine hs0.mono ?_
  rintro e w1 ⟨rfl, HW⟩
  have HB1 := Lib.hid (HB0.out.trans (HW.out.mono HB0.out.size))
  clear HW hs0 c0
  have c1 := (HB1.out.cell (p := ⟨b, 0, none⟩) lb).trans Hb.out
  go_wp2_with fail
  have hs1 := askNonce_any M nn nc _ _ w1 (HE.out.below h0 HB1.out).er (by have := HB1.out.size; omega)
  by_cases k1 : (16 ≤ nn ∧ nn ≤ 16)
  rotate_left
  · clear hbad
    rw [decide_eq_false k1] at hs1
    simp only [asked, Bool.false_eq_true, if_false, thrown] at hs1
    refine hs1.mono ?_
    rintro e w9 ⟨rfl, HW⟩
    go_wp2_with fail
    exact ⟨rfl, rfl, HB1.out.trans (HW.out.mono HB1.out.size)⟩
  rw [decide_eq_true k1] at hs1
  simp only [asked, if_true] at hs1
  refine hs1.mono ?_
  rintro e w2 ⟨rfl, HW⟩
  have HB2 := Lib.hid (HB1.out.trans (HW.out.mono HB1.out.size))
  clear HW hs1 c1
  have c2 := (HB2.out.cell (p := ⟨c, 0, none⟩) lc).trans Hc.out
  go_wp2_with fail
  have hs2 := askName_any who _ _ w2 (HE.out.below h0 HB2.out).er (by have := HB2.out.size; omega)
  rw [decide_eq_false (fun h => hbad ⟨k0, k1, h⟩)] at hs2
  simp only [asked, Bool.false_eq_true, if_false, thrown] at hs2
  refine hs2.mono ?_
  rintro e w9 ⟨rfl, HW⟩
  go_wp2_with fail
  exact ⟨rfl, rfl, HB2.out.trans (HW.out.mono HB2.out.size)⟩
set_option maxRecDepth 100000 in
theorem proveC_ok (E : Nat → Value) (t : TypeId) (u ep : Value) (a b c : Nat) (K : Option Addr) (kn kc : Nat) (M : Option Addr) (nn nc : Nat) (who : ByteArray) (key nonce : List UInt8) (w : World) (hE : Env w E (.iface t u) ep)
    (ha : w.cell? ⟨a, 0, none⟩ = some (.slice K kn kc)) (la : a < w.heap.size) (hb : w.cell? ⟨b, 0, none⟩ = some (.slice M nn nc)) (lb : b < w.heap.size) (hc : w.cell? ⟨c, 0, none⟩ = some (.string who)) (lc : c < w.heap.size) (hk : KeyAt w K kn kc key) (hm : KeyAt w M nn nc nonce) (k0 : 1 ≤ kn ∧ kn ≤ 64) (k1 : 16 ≤ nn ∧ nn ≤ 16) (k2 : 1 ≤ who.size ∧ who.size ≤ 16) :
    Calls Tryd.prog 28 #[.pointer (some ⟨a, 0, none⟩), .pointer (some ⟨b, 0, none⟩), .pointer (some ⟨c, 0, none⟩)] w fun e w' => ∃ v, e = .returned v ∧ Hid (w'.ownsRow w.heap.size 5 1 v 32 ((proveB key nonce who).map bv) ∧ Below w.heap.size w w') := by
  have h0 := hE.tab.1
  have HE := Lib.hid hE
  have HK := Lib.hid hk
  have HM := Lib.hid hm
  clear hk hm
  have Ha := Lib.hid ha
  have Hb := Lib.hid hb
  have Hc := Lib.hid hc
  clear hE ha hb hc
  have HB0 := Lib.hid (Below.refl w.heap.size w)
  have c0 := Ha.out
  go_enter Tryd.func28, Tryd.ntmps28
  go_wp2_with fail
  have hs0 := askSecret_any K kn kc _ _ w HE.out.er (by have := HB0.out.size; omega)
  rw [decide_eq_true k0] at hs0
  simp only [asked, if_true] at hs0
  refine hs0.mono ?_
  rintro e w1 ⟨rfl, HW⟩
  have HB1 := Lib.hid (HB0.out.trans (HW.out.mono HB0.out.size))
  clear HW hs0 c0 HB0
  have c1 := (HB1.out.cell (p := ⟨b, 0, none⟩) lb).trans Hb.out
  go_wp2_with fail
  have hs1 := askNonce_any M nn nc _ _ w1 (HE.out.below h0 HB1.out).er (by have := HB1.out.size; omega)
  rw [decide_eq_true k1] at hs1
  simp only [asked, if_true] at hs1
  refine hs1.mono ?_
  rintro e w2 ⟨rfl, HW⟩
  have HB2 := Lib.hid (HB1.out.trans (HW.out.mono HB1.out.size))
  clear HW hs1 c1 HB1
  have c2 := (HB2.out.cell (p := ⟨c, 0, none⟩) lc).trans Hc.out
  go_wp2_with fail
  have hs2 := askName_any who _ _ w2 (HE.out.below h0 HB2.out).er (by have := HB2.out.size; omega)
  rw [decide_eq_true k2] at hs2
  simp only [asked, if_true] at hs2
  refine hs2.mono ?_
  rintro e w3 ⟨rfl, HW⟩
  have HB3 := Lib.hid (HB2.out.trans (HW.out.mono HB2.out.size))
  clear HW hs2 c2 HB2
  have da := (HB3.out.cell (p := ⟨a, 0, none⟩) la).trans Ha.out
  have db := (HB3.out.cell (p := ⟨b, 0, none⟩) lb).trans Hb.out
  have dc := (HB3.out.cell (p := ⟨c, 0, none⟩) lc).trans Hc.out
  clear Ha Hb Hc
  have hk3 := HK.out.below HB3.out
  have hm3 := HM.out.below HB3.out
  have hcv := hm3.rd.toStr nn nc hm3.len
  have HB3 := Lib.hid (HB3.out.trans ((below_alloc' w3 (.cells #[.int .i64 0, .float .f64 0, .string ⟨nonce.toArray⟩, .int .i64 0, .float .f64 0, .string who] 61)).mono HB3.out.size))
  have hz3 : (w3.alloc (.cells #[.int .i64 0, .float .f64 0, .string ⟨nonce.toArray⟩, .int .i64 0, .float .f64 0, .string who] 61)).heap.size = w3.heap.size + 1 := by simp
  have hk4 := HK.out.below HB3.out
  have hns : (⟨nonce.toArray⟩ : ByteArray).size = 16 := by show nonce.toArray.size = 16; rw [List.size_toArray, hm3.len]; omega
  have hS := sum_any E (.iface t u) ep 32 32 rfl K kn kc key 112 112 rfl ⟨#[114, 116]⟩ 2 (some ⟨w3.heap.size, 0, none⟩) [⟨0, 0, ⟨nonce.toArray⟩⟩, ⟨0, 0, who⟩] _ (HE.out.below h0 HB3.out) (by decide) hk4.len hk4.cap hk4.max (by have := k0.2; omega) hk4.rd
    (by decide) rfl (by rw [hz3]; exact cs_two w3 0 0 _ who) (by intro x hx; simp only [List.mem_cons, List.not_mem_nil, or_false] at hx; rcases hx with rfl | rfl; exact fc_ok 0 _ (by decide) (by decide) (by rw [hns]; decide); exact fc_ok 0 _ (by decide) (by decide) k2.2) (19 + who.size) (by decide) (sum_rt _ who hns k2.2) (by have := k2.2; omega)
    (by show (F.encB [114, 116] _).length = _; rw [enc_rt]; simp only [List.length_append, be_len]; rw [hm3.len, Array.length_toList]; show 2 + nn + (1 + who.size) = 19 + who.size; omega)
  have HS : Hid (Calls Tryd.prog 27 #[.int .i64 32, .slice K kn kc, .int .u8 112, .string ⟨#[114, 116]⟩, .slice (some ⟨w3.heap.size, 0, none⟩) 2 2] (w3.alloc (.cells #[.int .i64 0, .float .f64 0, .string ⟨nonce.toArray⟩, .int .i64 0, .float .f64 0, .string who] 61)) fun e w' => ∃ v, e = .returned v ∧ Hid (w'.ownsRow w.heap.size 5 1 v 32 ((proveB key nonce who).map bv) ∧ Below w.heap.size w w')) := Lib.hid (hS.mono fun e w' ⟨v, hv, HV⟩ => by
    refine ⟨v, hv, Lib.hid ⟨?_, HB3.out.trans (HV.out.2.mono HB3.out.size)⟩⟩
    have h5 := World.ownsRow.mono HV.out.1 HB3.out.size
    rw [show F.encB (⟨#[114, 116]⟩ : ByteArray).data.toList [⟨0, 0, ⟨nonce.toArray⟩⟩, ⟨0, 0, who⟩] = _ from enc_rt _ who, List.take_of_length_le (by rw [keyed_length]; exact Nat.le_refl _)] at h5
    exact h5)
  clear hS hk3 hk4 hm3 hz3 HB3 HK HM HE hns
  go_wp2_with fail
  with_reducible refine HS.out.mono ?_
  rintro e w7 ⟨v, rfl, HV⟩
  go_wp2_with fail
  go_ret
  exact ⟨_, rfl, HV⟩
theorem enter28 (a : Array Value) (w : World) : (callFunc 28 a).run Tryd.prog w = .ok (.enter 28 a) w := by kernel_rfl
set_option maxRecDepth 100000 in
theorem prove_ok (E : Nat → Value) (t : TypeId) (u ep : Value) (K : Option Addr) (kn kc : Nat) (M : Option Addr) (nn nc : Nat) (who : ByteArray) (key nonce : List UInt8) (w : World) (hE : Env w E (.iface t u) ep) (hk : KeyAt w K kn kc key) (hm : KeyAt w M nn nc nonce) (k0 : 1 ≤ kn ∧ kn ≤ 64) (k1 : 16 ≤ nn ∧ nn ≤ 16) (k2 : 1 ≤ who.size ∧ who.size ≤ 16) :
    Calls Tryd.prog 12 #[.slice K kn kc, .slice M nn nc, .string who] w fun e w' => ∃ v, e = .returned (.tuple #[v, .nilIface]) ∧ Hid (w'.ownsRow w.heap.size 5 1 v 32 ((proveB key nonce who).map bv) ∧ Below w.heap.size w w') := by
  have hmf : ∀ (fn : Fn) (first cap : Array Value) (w : World), (Instr.makeFunc fn first cap).run Tryd.prog w = .ok (.func fn first cap) w := fun _ _ _ _ => rfl
  have hb := below_three w (.cells #[.slice K kn kc] 22) (.cells #[.slice M nn nc] 22) (.cells #[.string who] 9)
  have hz : ((((w.alloc (.cells #[.slice K kn kc] 22)).alloc (.cells #[.slice M nn nc] 22)).alloc (.cells #[.string who] 9))).heap.size = w.heap.size + 3 := by simp
  have hc := cells_three w (.slice K kn kc) (.slice M nn nc) (.string who) 22 22 9 (.cells #[.nilIface] 30)
  generalize hw1 : (((w.alloc (.cells #[.slice K kn kc] 22)).alloc (.cells #[.slice M nn nc] 22)).alloc (.cells #[.string who] 9)) = w1 at *
  have hb2 : Below w.heap.size w (w1.alloc (.cells #[.nilIface] 30)) := hb.trans ((below_alloc' w1 _).mono hb.size)
  have hz2 : (w1.alloc (.cells #[.nilIface] 30)).heap.size = w1.heap.size + 1 := by simp
  have hA := answerB_ok 28 #[.pointer (some ⟨w.heap.size, 0, none⟩), .pointer (some ⟨w.heap.size + 1, 0, none⟩), .pointer (some ⟨w.heap.size + 2, 0, none⟩)] w1 (fun v w' => w'.ownsRow (w1.heap.size + 1) 5 1 v 32 ((proveB key nonce who).map bv)) enter28
    ((proveC_ok E t u ep w.heap.size (w.heap.size + 1) (w.heap.size + 2) K kn kc M nn nc who key nonce _ (hE.below hE.tab.1 hb2) hc.1 (by rw [hz2]; omega) hc.2.1 (by rw [hz2]; omega) hc.2.2 (by rw [hz2]; omega) (hk.below hb2) (hm.below hb2) k0 k1 k2).mono fun e w' ⟨v, hv, HV⟩ =>
      ⟨v, hv, by have h := HV.out.1; rwa [hz2] at h, by have h := HV.out.2; rwa [hz2] at h⟩)
  have HA : Hid (Calls Tryd.prog 23 #[.func (.func 28) #[] #[.pointer (some ⟨w.heap.size, 0, none⟩), .pointer (some ⟨w.heap.size + 1, 0, none⟩), .pointer (some ⟨w.heap.size + 2, 0, none⟩)]] w1 fun e w' => ∃ v, e = .returned (.tuple #[v, .nilIface]) ∧ Hid (w'.ownsRow w.heap.size 5 1 v 32 ((proveB key nonce who).map bv) ∧ Below w.heap.size w w')) := Lib.hid (hA.mono fun e w' ⟨v, w2, he, hv, hw, hbl⟩ => by
    refine ⟨v, he, Lib.hid ⟨?_, hb.trans (hbl.mono hb.size)⟩⟩
    rw [hw]
    exact World.ownsRow.mono (ownsRow_setCell_below hv (Nat.lt_succ_self _) _) (by omega))
  have HW1 := Lib.hid hw1
  clear hA hE hb hz hc hb2 hz2 hw1
  go_enter Tryd.func12, Tryd.ntmps12
  go_wp2_with fail
  rw [HW1.out]
  with_reducible refine HA.out.mono ?_
  rintro e w4 ⟨v, rfl, HV⟩
  go_wp2_with fail
  go_ret2
  exact ⟨_, rfl, HV⟩
set_option maxRecDepth 100000 in
theorem prove_bad (E : Nat → Value) (t : TypeId) (u ep : Value) (K : Option Addr) (kn kc : Nat) (M : Option Addr) (nn nc : Nat) (who : ByteArray) (w : World) (hE : Env w E (.iface t u) ep) (hbad : ¬ ((1 ≤ kn ∧ kn ≤ 64) ∧ (16 ≤ nn ∧ nn ≤ 16) ∧ (1 ≤ who.size ∧ who.size ≤ 16))) :
    Calls Tryd.prog 12 #[.slice K kn kc, .slice M nn nc, .string who] w fun e w' => e = .returned (.tuple #[.slice none 0 0, .iface t u]) ∧ Hid (Below w.heap.size w w') := by
  have hmf : ∀ (fn : Fn) (first cap : Array Value) (w : World), (Instr.makeFunc fn first cap).run Tryd.prog w = .ok (.func fn first cap) w := fun _ _ _ _ => rfl
  have hb := below_three w (.cells #[.slice K kn kc] 22) (.cells #[.slice M nn nc] 22) (.cells #[.string who] 9)
  have hz : ((((w.alloc (.cells #[.slice K kn kc] 22)).alloc (.cells #[.slice M nn nc] 22)).alloc (.cells #[.string who] 9))).heap.size = w.heap.size + 3 := by simp
  have hc := cells_three w (.slice K kn kc) (.slice M nn nc) (.string who) 22 22 9 (.cells #[.nilIface] 30)
  generalize hw1 : (((w.alloc (.cells #[.slice K kn kc] 22)).alloc (.cells #[.slice M nn nc] 22)).alloc (.cells #[.string who] 9)) = w1 at *
  have hb2 : Below w.heap.size w (w1.alloc (.cells #[.nilIface] 30)) := hb.trans ((below_alloc' w1 _).mono hb.size)
  have hz2 : (w1.alloc (.cells #[.nilIface] 30)).heap.size = w1.heap.size + 1 := by simp
  have hA := answerB_bad 28 #[.pointer (some ⟨w.heap.size, 0, none⟩), .pointer (some ⟨w.heap.size + 1, 0, none⟩), .pointer (some ⟨w.heap.size + 2, 0, none⟩)] t u w1 enter28
    ((proveC_bad E t u ep w.heap.size (w.heap.size + 1) (w.heap.size + 2) K kn kc M nn nc who _ (hE.below hE.tab.1 hb2) hc.1 (by rw [hz2]; omega) hc.2.1 (by rw [hz2]; omega) hc.2.2 (by rw [hz2]; omega) hbad).mono fun e w' ⟨he, hv⟩ =>
      ⟨he, by rwa [hz2] at hv⟩)
  have HA : Hid (Calls Tryd.prog 23 #[.func (.func 28) #[] #[.pointer (some ⟨w.heap.size, 0, none⟩), .pointer (some ⟨w.heap.size + 1, 0, none⟩), .pointer (some ⟨w.heap.size + 2, 0, none⟩)]] w1 fun e w' => e = .returned (.tuple #[.slice none 0 0, .iface t u]) ∧ Hid (Below w.heap.size w w')) := Lib.hid (hA.mono fun e w' ⟨he, hbl⟩ =>
    ⟨he, Lib.hid (hb.trans (hbl.mono hb.size))⟩)
  have HW1 := Lib.hid hw1
  clear hA hE hb hz hc hb2 hz2 hw1 hbad
  go_enter Tryd.func12, Tryd.ntmps12
  go_wp2_with fail
  rw [HW1.out]
  with_reducible refine HA.out.mono ?_
  rintro e w4 ⟨rfl, HV⟩
  go_wp2_with fail
  go_ret2
  exact ⟨rfl, HV⟩
end Go.Proofs.YtchnbknbccpmcaaDoor
