/- The law ProofShapes. -/
import Derived.Test.YtchnbknbccpmcaaDoorAlv
namespace Go.Proofs.YtchnbknbccpmcaaDoor
open Go.RowKit
open Go.Proofs.YtchnbknbccpmcaaDoor.H

theorem case_cells {w : World} {g : Nat} {a b c d e : Value} (hr : H.Row w g 24 [a, b, c, d, e]) : w.cell? ⟨g, 0, none⟩ = some a ∧ w.cell? ⟨g, 1, none⟩ = some b ∧ w.cell? ⟨g, 2, none⟩ = some c ∧ w.cell? ⟨g, 3, none⟩ = some d ∧ w.cell? ⟨g, 4, none⟩ = some e :=
  ⟨hr.cell 0, hr.cell 1, hr.cell 2, hr.cell 3, hr.cell 4⟩
/-- What a law knows of its case, in any world behind. -/
structure Case (w : World) (g : Nat) (E : Nat → Value) (a0 a1 : Addr) (K : Option Addr) (kn kc : Nat) (key : List UInt8) (M : Option Addr) (nn nc : Nat) (nonce : List UInt8) (who : ByteArray) (z : Int) (T : Option Addr) (n d : Nat) (bs : List UInt8) : Prop where
  env : Env w E (.iface 127 (.pointer (some a0))) (.iface 127 (.pointer (some a1)))
  row : H.Row w g 24 [.slice K kn kc, .slice M nn nc, .string who, .int .i64 z, .slice T n d]
  key : KeyAt w K kn kc key
  nonce : KeyAt w M nn nc nonce
  bytes : KeyAt w T n d bs
theorem Case.below {w w' : World} {g : Nat} {E : Nat → Value} {a0 a1 : Addr} {K : Option Addr} {kn kc : Nat} {key : List UInt8} {M : Option Addr} {nn nc : Nat} {nonce : List UInt8} {who : ByteArray} {z : Int} {T : Option Addr} {n d : Nat} {bs : List UInt8}
    (h : Case w g E a0 a1 K kn kc key M nn nc nonce who z T n d bs) (hb : Below w.heap.size w w') : Case w' g E a0 a1 K kn kc key M nn nc nonce who z T n d bs :=
  ⟨h.env.below h.env.tab.1 hb, h.row.below hb h.row.lt, h.key.below hb, h.nonce.below hb, h.bytes.below hb⟩
theorem Case.new {w : World} {E : Nat → Value} {a0 a1 : Addr} {K : Option Addr} {kn kc : Nat} {key : List UInt8} {M : Option Addr} {nn nc : Nat} {nonce : List UInt8} {who : ByteArray} {z : Int} {T : Option Addr} {n d : Nat} {bs : List UInt8}
    (hE : Env w E (.iface 127 (.pointer (some a0))) (.iface 127 (.pointer (some a1)))) (hk : KeyAt w K kn kc key) (hm : KeyAt w M nn nc nonce) (ht : KeyAt w T n d bs) :
    Case (w.alloc (.cells #[.slice K kn kc, .slice M nn nc, .string who, .int .i64 z, .slice T n d] 24)) w.heap.size E a0 a1 K kn kc key M nn nc nonce who z T n d bs :=
  let hb := below_alloc' w (.cells #[.slice K kn kc, .slice M nn nc, .string who, .int .i64 z, .slice T n d] 24)
  ⟨hE.below hE.tab.1 hb, H.Row.new w [.slice K kn kc, .slice M nn nc, .string who, .int .i64 z, .slice T n d] 24, hk.below hb, hm.below hb, ht.below hb⟩

set_option maxRecDepth 100000 in
theorem shapes_any (E : Nat → Value) (a0 a1 : Addr) (K : Option Addr) (kn kc : Nat) (key : List UInt8) (M : Option Addr) (nn nc : Nat) (nonce : List UInt8) (who : ByteArray) (z : Int) (T : Option Addr) (n d : Nat) (bs : List UInt8) (w : World)
    (hE : Env w E (.iface 127 (.pointer (some a0))) (.iface 127 (.pointer (some a1)))) (hk : KeyAt w K kn kc key) (hm : KeyAt w M nn nc nonce) (ht : KeyAt w T n d bs) :
    Calls Tryd.prog 5 #[.agg #[.slice K kn kc, .slice M nn nc, .string who, .int .i64 z, .slice T n d]] w fun e w' => e = .returned (.bool true) ∧ Below w.heap.size w w' := by
  have HC1 := Lib.hid (Case.new (who := who) (z := z) hE hk hm ht)
  have HB1 := Lib.hid (below_alloc' w (.cells #[.slice K kn kc, .slice M nn nc, .string who, .int .i64 z, .slice T n d] 24))
  generalize hw1 : w.alloc (.cells #[.slice K kn kc, .slice M nn nc, .string who, .int .i64 z, .slice T n d] 24) = w1 at *
  have HW1 := Lib.hid hw1
  clear hE hk hm ht hw1
  have hnot : ∀ (x : Bool) (w : World), (Op.unary .not (.bool x)).run Tryd.prog w = .ok (.bool (!x)) w := fun _ _ => rfl
  go_enter Tryd.func5, Tryd.ntmps5
  go_wp2_with fail
  rw [HW1.out]
  with_reducible refine (alive_any E a0 a1 w1 HC1.out.env).mono ?_
  rintro e w2 ⟨rfl, HV⟩
  have HC2 := Lib.hid (HC1.out.below HV.out)
  have HB2 := Lib.hid (HB1.out.trans (HV.out.mono HB1.out.size))
  clear HC1 HB1 HV HW1
  obtain ⟨c0, c1, c2, c3, c4⟩ := case_cells HC2.out.row
  go_wp2_with fail
  with_reducible refine (long_any K kn kc M nn nc who z T n d w2).mono ?_
  rintro e w3 ⟨rfl, HV⟩
  have hb3 := HV.out
  have HC3 := Lib.hid (HC2.out.below hb3)
  have HB3 := Lib.hid (HB2.out.trans (hb3.mono HB2.out.size))
  clear HV
  clear HC2 HB2 hb3 c0 c1 c2 c3 c4
  obtain ⟨c0, c1, c2, c3, c4⟩ := case_cells HC3.out.row
  by_cases hl : 3000 < kn ∨ 3000 < nn ∨ 3000 < who.size ∨ 3000 < n
  · rw [decide_eq_true hl]
    go_wp2_with fail
    go_ret
    exact ⟨rfl, HB3.out⟩
  rw [decide_eq_false hl]
  clear hl
  have heq : ∀ (w : World), (binOp BinOp.eql 30 .nilIface .nilIface).run Tryd.prog w = .ok (.bool true) w := fun _ => by kernel_rfl
  have heq2 : ∀ (t : TypeId) (u : Value) (w : World), (binOp BinOp.eql 30 (.iface t u) .nilIface).run Tryd.prog w = .ok (.bool false) w := fun _ _ _ => by kernel_rfl
  have hne : ∀ (w : World), (binOp BinOp.neq 30 .nilIface .nilIface).run Tryd.prog w = .ok (.bool false) w := fun _ => by kernel_rfl
  have hne2 : ∀ (t : TypeId) (u : Value) (w : World), (binOp BinOp.neq 30 (.iface t u) .nilIface).run Tryd.prog w = .ok (.bool true) w := fun _ _ _ => by kernel_rfl
  by_cases hA : (1 ≤ kn ∧ kn ≤ 64) ∧ (0 ≤ z ∧ z ≤ 1099511627776)
  rotate_left
  · have HN := Lib.hid (fun w => nonce_bad E 127 (.pointer (some a0)) (.iface 127 (.pointer (some a1))) K kn kc z w)
    go_wp2_with fail
    with_reducible refine (HN.out w3 HC3.out.env hA).mono ?_
    rintro e w4 ⟨rfl, HV⟩
    have hb4 := HV.out
    have HC4 := Lib.hid (HC3.out.below hb4)
    have HB4 := Lib.hid (HB3.out.trans (hb4.mono HB3.out.size))
    clear HV
    clear HC3 HB3 hb4 c0 c1 c2 c3 c4
    obtain ⟨c0, c1, c2, c3, c4⟩ := case_cells HC4.out.row
    go_wp2_with fail
    with_reducible refine (HN.out w4 HC4.out.env hA).mono ?_
    rintro e w5 ⟨rfl, HV⟩
    have hb5 := HV.out
    have HC5 := Lib.hid (HC4.out.below hb5)
    have HB5 := Lib.hid (HB4.out.trans (hb5.mono HB4.out.size))
    clear HV
    clear HC4 HB4 hb5 c0 c1 c2 c3 c4
    obtain ⟨c0, c1, c2, c3, c4⟩ := case_cells HC5.out.row
    clear HN
    have HT := Lib.hid (ticket_bad E 127 _ _ K kn kc who z w5 HC5.out.env (fun h => hA ⟨h.1, h.2.2⟩))
    clear hA
    clear heq heq2 hne
    go_wp2_with fail
    with_reducible refine HT.out.mono ?_
    rintro e wt ⟨rfl, HV⟩
    go_wp2_with fail
    go_ret
    exact ⟨rfl, HB5.out.trans (HV.out.mono HB5.out.size)⟩
  have HN := Lib.hid (fun w hE hk => nonce_ok E 127 (.pointer (some a0)) (.iface 127 (.pointer (some a1))) K kn kc key z w hE hk hA.1 hA.2)
  go_wp2_with fail
  with_reducible refine (HN.out w3 HC3.out.env HC3.out.key).mono ?_
  rintro e w4 ⟨v3, rfl, HV⟩
  have hb4 := HV.out.2
  have HC4 := Lib.hid (HC3.out.below hb4)
  have HB4 := Lib.hid (HB3.out.trans (hb4.mono HB3.out.size))
  obtain ⟨A3, d3, rfl, hk3, _⟩ := own_key HV.out.1 (by decide)
  have HK3 := Lib.hid hk3
  clear hk3 HV
  clear HC3 HB3 hb4 c0 c1 c2 c3 c4
  obtain ⟨c0, c1, c2, c3, c4⟩ := case_cells HC4.out.row
  go_wp2_with fail
  with_reducible refine (HN.out w4 HC4.out.env HC4.out.key).mono ?_
  rintro e w5 ⟨v4, rfl, HV⟩
  have hb5 := HV.out.2
  have HC5 := Lib.hid (HC4.out.below hb5)
  have HB5 := Lib.hid (HB4.out.trans (hb5.mono HB4.out.size))
  obtain ⟨A4, d4, rfl, hk4, _⟩ := own_key HV.out.1 (by decide)
  have HK3' := Lib.hid (HK3.out.below hb5)
  have HK4 := Lib.hid hk4
  clear hk4 HV HK3
  clear HC4 HB4 hb5 c0 c1 c2 c3 c4
  obtain ⟨c0, c1, c2, c3, c4⟩ := case_cells HC5.out.row
  clear HN
  have HP := Lib.hid (fun w M c N hE hk hm => prove_ok E 127 (.pointer (some a0)) (.iface 127 (.pointer (some a1))) K kn kc M 16 c ⟨#[119, 104, 111]⟩ key N w hE hk hm hA.1 (by decide) (by decide))
  go_wp2_with fail
  with_reducible refine (HP.out w5 A3 d3 _ HC5.out.env HC5.out.key HK3'.out).mono ?_
  rintro e w6 ⟨v5, rfl, HV⟩
  have hb6 := HV.out.2
  have HC6 := Lib.hid (HC5.out.below hb6)
  have HB6 := Lib.hid (HB5.out.trans (hb6.mono HB5.out.size))
  obtain ⟨A5, d5, rfl, hk5, _⟩ := own_key HV.out.1 (by decide)
  have HK5 := Lib.hid hk5
  have HK3 := Lib.hid (HK3'.out.below hb6)
  have HK4' := Lib.hid (HK4.out.below hb6)
  clear hk5 HV HK3' HK4
  clear HC5 HB5 hb6 c0 c1 c2 c3 c4
  obtain ⟨c0, c1, c2, c3, c4⟩ := case_cells HC6.out.row
  go_wp2_with fail
  with_reducible refine (HP.out w6 A4 d4 _ HC6.out.env HC6.out.key HK4'.out).mono ?_
  rintro e w7 ⟨v6, rfl, HV⟩
  have hb7 := HV.out.2
  have HC7 := Lib.hid (HC6.out.below hb7)
  have HB7 := Lib.hid (HB6.out.trans (hb7.mono HB6.out.size))
  obtain ⟨A6, d6, rfl, hk6, _⟩ := own_key HV.out.1 (by decide)
  have HK6 := Lib.hid hk6
  have HK3' := Lib.hid (HK3.out.below hb7)
  have HK4 := Lib.hid (HK4'.out.below hb7)
  have HK5' := Lib.hid (HK5.out.below hb7)
  clear hk6 HV HK3 HK4' HK5
  clear HC6 HB6 hb7 c0 c1 c2 c3 c4
  obtain ⟨c0, c1, c2, c3, c4⟩ := case_cells HC7.out.row
  clear HP
  have HR := Lib.hid (right_any E 127 _ _ K kn kc A3 16 d3 ⟨#[119, 104, 111]⟩ A5 32 d5 key _ _ w7 HC7.out.env HC7.out.key HK3'.out HK5'.out)
  rw [decide_eq_true ⟨⟨hA.1, by decide, by decide⟩, rfl⟩] at HR
  have hv3 := HK3'.out.rd.toStr 16 d3 HK3'.out.len
  have hv4 := HK4.out.rd.toStr 16 d4 HK4.out.len
  have hv5 := HK5'.out.rd.toStr 32 d5 HK5'.out.len
  have hv6 := HK6.out.rd.toStr 32 d6 HK6.out.len
  clear HK3' HK4 HK5' HK6
  generalize hs3 : (⟨(nonceB key z.toNat).toArray⟩ : ByteArray) = s3 at *
  generalize hs5 : (⟨(proveB key (nonceB key z.toNat) ⟨#[119, 104, 111]⟩).toArray⟩ : ByteArray) = s5 at *
  clear hs3 hs5
  go_wp2_with fail
  with_reducible refine HR.out.mono ?_
  rintro e w8 ⟨rfl, HV⟩
  clear hv3 hv4 hv5 hv6
  have hb8 := HV.out
  have HC8 := Lib.hid (HC7.out.below hb8)
  have HB8 := Lib.hid (HB7.out.trans (hb8.mono HB7.out.size))
  clear HV
  clear HC7 HB7 hb8 c0 c1 c2 c3 c4
  obtain ⟨c0, c1, c2, c3, c4⟩ := case_cells HC8.out.row
  by_cases hB : 1 ≤ who.size ∧ who.size ≤ 16
  · have HT := Lib.hid (ticket_ok E 127 _ _ K kn kc who z key w8 HC8.out.env HC8.out.key hA.1 hB hA.2)
    clear heq heq2 hne2 hA hB
    go_wp2_with fail
    with_reducible refine HT.out.mono ?_
    rintro e wt ⟨v, rfl, HV⟩
    obtain ⟨At, ct, rfl, _, _⟩ := own_key HV.out.1 (by decide)
    go_wp2_with fail
    go_ret
    exact ⟨rfl, HB8.out.trans (HV.out.2.mono HB8.out.size)⟩
  · have HT := Lib.hid (ticket_bad E 127 _ _ K kn kc who z w8 HC8.out.env (fun h => hB h.2.1))
    clear hA hB
    clear heq heq2 hne
    go_wp2_with fail
    with_reducible refine HT.out.mono ?_
    rintro e wt ⟨rfl, HV⟩
    go_wp2_with fail
    go_ret
    exact ⟨rfl, HB8.out.trans (HV.out.mono HB8.out.size)⟩
end Go.Proofs.YtchnbknbccpmcaaDoor
