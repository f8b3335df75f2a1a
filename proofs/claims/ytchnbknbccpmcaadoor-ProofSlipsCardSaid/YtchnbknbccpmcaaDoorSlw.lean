/- The law ProofSlips. -/
import Derived.Test.YtchnbknbccpmcaaDoorShw
namespace Go.Proofs.YtchnbknbccpmcaaDoor
open Go.RowKit
open Go.Proofs.YtchnbknbccpmcaaDoor.H

theorem and_31 (z : Int) : ∃ i : Nat, i < 32 ∧ bits BinOp.and IntKind.i64 z 31 = (i : Int) := by
  have h2 : (BitVec.ofInt 64 (31 : Int)).toNat = 31 := rfl
  have h1 : (BitVec.ofInt 64 z &&& BitVec.ofInt 64 31).toNat < 32 := by
    rw [BitVec.toNat_and, h2]
    have := @Nat.and_le_right (BitVec.ofInt 64 z).toNat 31
    omega
  refine ⟨(BitVec.ofInt 64 z &&& BitVec.ofInt 64 31).toNat, h1, ?_⟩
  show IntKind.i64.wrap ((BitVec.ofInt 64 z &&& BitVec.ofInt 64 31).toNat : Int) = _
  generalize (BitVec.ofInt 64 z &&& BitVec.ofInt 64 31).toNat = n at h1
  rw [IntKind.wrap_i64]
  omega
theorem set_ne {l : List UInt8} {j : Nat} {x : UInt8} (hj : j < l.length) (hx : x ≠ l[j]) : l.set j x ≠ l := by
  intro e
  have h := congrArg (fun m : List UInt8 => m[j]?) e
  simp [hj] at h
  exact hx h
theorem xor_ne (b t : UInt8) (h : t ≠ 0) : b ^^^ t ≠ b := by
  intro e
  apply h
  have h1 : b ^^^ (b ^^^ t) = b ^^^ b := by rw [e]
  rwa [← UInt8.xor_assoc, UInt8.xor_self, UInt8.zero_xor] at h1
/-- A ticket whose sum was turned is none. -/
theorem slip_none (key : List UInt8) (who : ByteArray) (m j : Nat) (x : UInt8) (hm : m ≤ 1099511627776) (h8 : 8 ≤ j) (hj : j < (ticketB key who m).length) (hx : x ≠ (ticketB key who m)[j]) : openB key who ((ticketB key who m).set j x) = none := by
  unfold openB
  rw [if_neg]
  rintro ⟨_, _, h⟩
  have e : ((ticketB key who m).set j x).take 8 = F.be 8 m := by rw [List.take_set_of_le h8, ticket_take]
  rw [e, num_be 8 m (by omega)] at h
  exact set_ne hj hx h
theorem set_map (l : List UInt8) (j : Nat) (x : UInt8) : (l.map bv).set j (.int .u8 (x.toNat : Int)) = (l.set j x).map bv := by
  rw [List.map_set]; rfl
/-- A byte of a slice of our own, turned. -/
theorem own_turn {w : World} {base g c n : Nat} {bs : List UInt8} (h : w.ownsRow base 5 1 (.slice (some ⟨g, 0, none⟩) n c) n (bs.map bv)) (hb : base ≤ g) (_hs : base ≤ w.heap.size) (_hc : n ≤ c) (_hcm : c ≤ 9223372036854775807) (hsmall : n < 1152921504606846976) (j : Nat) (hj : j < bs.length) (t : UInt8) :
    w.cell? ⟨g, j, none⟩ = some (.int .u8 (bs[j].toNat : Int)) ∧ w.frozen? ⟨g, j, none⟩ = false ∧
      Hid (KeyAt (w.setCell ⟨g, j, none⟩ (.int .u8 ((bs[j] ^^^ t).toNat : Int))) (some ⟨g, 0, none⟩) n c (bs.set j (bs[j] ^^^ t)) ∧ Below base w (w.setCell ⟨g, j, none⟩ (.int .u8 ((bs[j] ^^^ t).toNat : Int)))) := by
  have hl : bs.length = n := by simpa using h.1
  refine ⟨?_, h.frozenAt j, Lib.hid ⟨?_, (Below.refl base w).setCell hb _⟩⟩
  · rw [h.cellAt j (by omega)]
    simp [hj, bv]
  · have h2 := (h.stored j (.int .u8 ((bs[j] ^^^ t).toNat : Int))).1
    rw [set_map] at h2
    obtain ⟨A, c2, e, hk, _⟩ := own_key h2 hsmall
    injection e with e1 e2 e3
    subst e1 e3
    exact hk

set_option maxRecDepth 100000 in
theorem slips_any (E : Nat → Value) (a0 a1 : Addr) (K : Option Addr) (kn kc : Nat) (key : List UInt8) (M : Option Addr) (nn nc : Nat) (nonce : List UInt8) (who : ByteArray) (z : Int) (T : Option Addr) (n d : Nat) (bs : List UInt8) (y : Int) (tu : UInt8) (w : World)
    (hE : Env w E (.iface 127 (.pointer (some a0))) (.iface 127 (.pointer (some a1)))) (hk : KeyAt w K kn kc key) (hm : KeyAt w M nn nc nonce) (ht : KeyAt w T n d bs) :
    Calls Tryd.prog 4 #[.agg #[.slice K kn kc, .slice M nn nc, .string who, .int .i64 z, .slice T n d], .int .i64 y, .int .u8 (tu.toNat : Int)] w fun e w' => e = .returned (.bool true) ∧ Below w.heap.size w w' := by
  have HC1 := Lib.hid (Case.new (who := who) (z := z) hE hk hm ht)
  have HB1 := Lib.hid (below_alloc' w (.cells #[.slice K kn kc, .slice M nn nc, .string who, .int .i64 z, .slice T n d] 24))
  generalize hw1 : w.alloc (.cells #[.slice K kn kc, .slice M nn nc, .string who, .int .i64 z, .slice T n d] 24) = w1 at *
  have HW1 := Lib.hid hw1
  clear hE hk hm ht hw1
  have hnot : ∀ (x : Bool) (w : World), (Op.unary .not (.bool x)).run Tryd.prog w = .ok (.bool (!x)) w := fun _ _ => rfl
  go_enter Tryd.func4, Tryd.ntmps4
  go_wp2_with fail
  rw [HW1.out]
  with_reducible refine (alive_any E a0 a1 w1 HC1.out.env).mono ?_
  rintro e w2 ⟨rfl, HV⟩
  have HC2 := Lib.hid (HC1.out.below HV.out)
  have HB2 := Lib.hid (HB1.out.trans (HV.out.mono HB1.out.size))
  clear HC1 HB1 HV HW1
  obtain ⟨c0, c1, c2, c3, c4⟩ := case_cells HC2.out.row
  go_wp2_with fail
  with_reducible refine (long_any K kn kc M nn nc who z T n d w2).mono ?_
  rintro e w3 ⟨rfl, HV⟩
  have hb3 := HV.out
  have HC3 := Lib.hid (HC2.out.below hb3)
  have HB3 := Lib.hid (HB2.out.trans (hb3.mono HB2.out.size))
  clear HV
  clear HC2 HB2 hb3 c0 c1 c2 c3 c4
  obtain ⟨c0, c1, c2, c3, c4⟩ := case_cells HC3.out.row
  by_cases hl : 3000 < kn ∨ 3000 < nn ∨ 3000 < who.size ∨ 3000 < n
  · rw [decide_eq_true hl]
    go_wp2_with fail
    go_ret
    exact ⟨rfl, HB3.out⟩
  rw [decide_eq_false hl]
  clear hl
  have heq : ∀ (w : World), (binOp BinOp.eql 30 .nilIface .nilIface).run Tryd.prog w = .ok (.bool true) w := fun _ => by kernel_rfl
  have heq2 : ∀ (t : TypeId) (u : Value) (w : World), (binOp BinOp.eql 30 (.iface t u) .nilIface).run Tryd.prog w = .ok (.bool false) w := fun _ _ _ => by kernel_rfl
  have hne : ∀ (w : World), (binOp BinOp.neq 30 .nilIface .nilIface).run Tryd.prog w = .ok (.bool false) w := fun _ => by kernel_rfl
  have hne2 : ∀ (t : TypeId) (u : Value) (w : World), (binOp BinOp.neq 30 (.iface t u) .nilIface).run Tryd.prog w = .ok (.bool true) w := fun _ _ _ => by kernel_rfl
  have hes := err_same a1
  obtain ⟨i, hil, hi⟩ := and_31 y
  obtain ⟨q, HQ⟩ : ∃ q, Hid (q = decide (tu = 0)) := ⟨_, Lib.hid rfl⟩
  have hq5 : ((tu.toNat : Int) == 0) = q := by
    rw [HQ.out]
    by_cases h0 : tu = 0
    · subst h0; rfl
    · have h1 : tu.toNat ≠ 0 := fun e => h0 (UInt8.toNat_inj.1 e)
      rw [decide_eq_false h0, beq_eq_false_iff_ne]
      omega
  by_cases hA : (1 ≤ kn ∧ kn ≤ 64) ∧ (16 ≤ nn ∧ nn ≤ 16) ∧ (1 ≤ who.size ∧ who.size ≤ 16)
  · have HP := Lib.hid (prove_ok E 127 _ _ K kn kc M nn nc who key nonce w3 HC3.out.env HC3.out.key HC3.out.nonce hA.1 hA.2.1 hA.2.2)
    have HI := Lib.hid hi
    have HA := Lib.hid hA
    clear hi hA
    go_wp2_with fail
    with_reducible refine HP.out.mono ?_
    rintro e w4 ⟨v4, rfl, HV⟩
    have HD3 := HC3
    have HE3 := HB3
    have HF4 := Lib.hid HV.out.2
    have hb4 := HV.out.2
    have HC4 := Lib.hid (HC3.out.below hb4)
    have HB4 := Lib.hid (HB3.out.trans (hb4.mono HB3.out.size))
    obtain ⟨g, d4, rfl, hg3, hg4, hd4, hm4⟩ := own_some HV.out.1 (by decide)
    have HO4 := Lib.hid HV.out.1
    clear HV HP
    clear HC3 HB3 hb4 c0 c1 c2 c3 c4
    obtain ⟨c0, c1, c2, c3, c4⟩ := case_cells HC4.out.row
    obtain ⟨_, _, e4, hk4, _⟩ := own_key HO4.out (by decide)
    injection e4 with e41 e42 e43
    subst e41 e43
    have HK4 := Lib.hid hk4
    have hpl := proveB_length key nonce who
    have HR1 : Hid (∀ w', Below w4.heap.size w4 w' → Calls Tryd.prog 15 #[.slice K kn kc, .slice M nn nc, .string who, .slice (some ⟨g, 0, none⟩) 32 d4] w' fun e w'' => e = .returned (.bool true) ∧ Hid (Below w'.heap.size w' w'')) := Lib.hid fun w' hb => (right_any E 127 _ _ K kn kc M nn nc who (some ⟨g, 0, none⟩) 32 d4 key nonce _ w' (HC4.out.below hb).env (HC4.out.below hb).key (HC4.out.below hb).nonce (HK4.out.below hb)).mono fun e w'' ⟨he, hb2⟩ => ⟨by rw [he, decide_eq_true ⟨HA.out, rfl⟩], hb2⟩
    have HR2 : Hid (∀ w', Below w4.heap.size w4 w' → Calls Tryd.prog 15 #[.slice K kn kc, .slice M nn nc, .string who, .slice (some ⟨g, 0, none⟩) 31 d4] w' fun e w'' => e = .returned (.bool false) ∧ Hid (Below w'.heap.size w' w'')) := Lib.hid fun w' hb => (right_any E 127 _ _ K kn kc M nn nc who (some ⟨g, 0, none⟩) 31 d4 key nonce ((proveB key nonce who).take 31) w' (HC4.out.below hb).env (HC4.out.below hb).key (HC4.out.below hb).nonce
      ⟨by rw [List.length_take, hpl]; rfl, by omega, hm4, by rw [List.map_take]; exact (HK4.out.below hb).rd.take 31⟩).mono fun e w'' ⟨he, hb2⟩ => ⟨by rw [he, decide_eq_false (fun h => by have := congrArg List.length h.2; rw [List.length_take, hpl] at this; simp at this)], hb2⟩
    have h31 : ¬ (d4 : Int) < 31 := by omega
    clear c1 c2 c3 c4 c0
    obtain ⟨c0, c1, c2, c3, c4⟩ := case_cells HC4.out.row
    clear c3 c4 hk4
    go_wp2_with fail
    go_region_held3 (fun w' => w'.cell? ⟨w.heap.size, 0, none⟩ = some (.slice K kn kc) ∧ w'.cell? ⟨w.heap.size, 1, none⟩ = some (.slice M nn nc) ∧ w'.cell? ⟨w.heap.size, 2, none⟩ = some (.string who))
      (first | exact ⟨c0, c1, c2⟩ | exact ⟨(HX.out.cell (p := ⟨w.heap.size, 0, none⟩) HC4.out.row.lt).trans c0, (HX.out.cell (p := ⟨w.heap.size, 1, none⟩) HC4.out.row.lt).trans c1, (HX.out.cell (p := ⟨w.heap.size, 2, none⟩) HC4.out.row.lt).trans c2⟩)
      (first
        | (go_at_call 15; (with_reducible refine (HR1.out _ ?_).mono ?_); (exact (Below.refl _ _).drew); rintro e w9 ⟨rfl, HV9⟩; have HX : Hid (Below w4.heap.size w4 w9) := Lib.hid ((Below.refl w4.heap.size w4).drew.trans HV9.out))
        | (go_at_call 15; (with_reducible refine (HR2.out _ HX.out).mono ?_); rintro e wx ⟨rfl, HVx⟩; have HX := Lib.hid (HX.out.trans (HVx.out.mono HX.out.size))))
    have HO5 := Lib.hid (own_below HO4.out HX.out)
    have hwx : w3.heap.size ≤ wx.heap.size := Nat.le_trans HF4.out.size HX.out.size
    obtain ⟨b, hb⟩ : ∃ b, b = (proveB key nonce who)[i]'(by omega) := ⟨_, rfl⟩
    obtain ⟨hcx, hzx, HTX⟩ := own_turn HO5.out hg3 hwx hd4 hm4 (by decide) i (by omega) tu
    rw [← hb] at hcx HTX
    obtain ⟨x, HXX⟩ : ∃ x, Hid (x = b ^^^ tu) := ⟨_, Lib.hid rfl⟩
    have hxo : bits .xor .u8 (b.toNat : Int) (tu.toNat : Int) = (x.toNat : Int) := by rw [HXX.out]; exact byte_xor b tu
    rw [← HXX.out] at HTX
    have HB' := Lib.hid ((HF4.out.trans (HX.out.mono HF4.out.size)).trans HTX.out.2)
    have HC5 := Lib.hid (HD3.out.below HB'.out)
    have HB5 := Lib.hid (HE3.out.trans (HB'.out.mono HE3.out.size))
    have hqs : ((proveB key nonce who).set i x = proveB key nonce who) ↔ tu = 0 := by
      constructor
      · intro e
        refine Classical.byContradiction fun h0 => ?_
        exact set_ne (by omega) (by rw [← hb, HXX.out]; exact xor_ne b tu h0) e
      · intro e
        rw [HXX.out, e, UInt8.xor_zero, hb]
        exact List.set_getElem_self _
    have HR5 := Lib.hid (right_any E 127 _ _ K kn kc M nn nc who (some ⟨g, 0, none⟩) 32 d4 key nonce _ _ HC5.out.env HC5.out.key HC5.out.nonce HTX.out.1)
    have hqd : decide (((1 ≤ kn ∧ kn ≤ 64) ∧ (16 ≤ nn ∧ nn ≤ 16) ∧ (1 ≤ who.size ∧ who.size ≤ 16)) ∧ (proveB key nonce who).set i x = proveB key nonce who) = q := by
      rw [HQ.out]
      exact decide_eq_decide.2 ⟨fun h => hqs.1 h.2, fun h => ⟨HA.out, hqs.2 h⟩⟩
    rw [hqd] at HR5
    have hqq : ∀ w : World, (binOp BinOp.neq 4 (.bool q) (.bool q)).run Tryd.prog w = .ok (.bool false) w := fun w => by cases q <;> kernel_rfl
    have hi := HI.out
    have hI : (0 : Int) ≤ (i : Int) ∧ (i : Int) < ((32 : Nat) : Int) := by omega
    clear hqd hqs hwx HO5 HTX HB' HR1 HR2 HO4 HK4 HX hb hpl c0 c1 c2 HC4 HB4
    obtain ⟨c0, c1, c2, c3, c4⟩ := case_cells HC5.out.row
    go_wp2_with fail
    with_reducible refine HR5.out.mono ?_
    rintro e w6 ⟨rfl, HV⟩
    have hb6 := HV.out
    have HC6 := Lib.hid (HC5.out.below hb6)
    have HB6 := Lib.hid (HB5.out.trans (hb6.mono HB5.out.size))
    clear HV HR5 hcx hzx
    clear HC5 HB5 hb6 c0 c1 c2 c3 c4
    obtain ⟨c0, c1, c2, c3, c4⟩ := case_cells HC6.out.row
    by_cases hB : (1 ≤ kn ∧ kn ≤ 64) ∧ (1 ≤ who.size ∧ who.size ≤ 16) ∧ (0 ≤ z ∧ z ≤ 1099511627776)
    rotate_left
    · have HT := Lib.hid (ticket_bad E 127 _ _ K kn kc who z w6 HC6.out.env hB)
      clear hB heq heq2 hne
      go_wp2_with fail
      with_reducible refine HT.out.mono ?_
      rintro e wt ⟨rfl, HV⟩
      go_wp2_with fail
      go_ret
      exact ⟨rfl, HB6.out.trans (HV.out.mono HB6.out.size)⟩
    have HT := Lib.hid (ticket_ok E 127 _ _ K kn kc who z key w6 HC6.out.env HC6.out.key hB.1 hB.2.1 hB.2.2)
    have HBB := Lib.hid hB
    clear hB heq heq2 hne2
    go_wp2_with fail
    with_reducible refine HT.out.mono ?_
    rintro e w7 ⟨v6, rfl, HV⟩
    have hb7 := HV.out.2
    have HC7 := Lib.hid (HC6.out.below hb7)
    have HB7 := Lib.hid (HB6.out.trans (hb7.mono HB6.out.size))
    obtain ⟨g2, d2, rfl, hg2, hg2', hd2, hm2⟩ := own_some HV.out.1 (by decide)
    have HO2 := Lib.hid HV.out.1
    obtain ⟨_, _, e4, hk4, _⟩ := own_key HV.out.1 (by decide)
    injection e4 with e41 e42 e43
    subst e41 e43
    have HD2 := HC6
    have HE2 := HB6
    have HF2 := Lib.hid HV.out.2
    have HOP := Lib.hid (open_yes E 127 _ _ K kn kc who _ 32 d2 key _ z.toNat w7 HC7.out.env HC7.out.key hk4 HBB.out.1 HBB.out.2.1 (open_ticket key who z.toNat (by have := HBB.out.2.2.2; omega)))
    clear HV HT hk4
    clear HC6 HB6 hb7 c0 c1 c2 c3 c4
    obtain ⟨c0, c1, c2, c3, c4⟩ := case_cells HC7.out.row
    go_wp2_with fail
    with_reducible refine HOP.out.mono ?_
    rintro e w8 ⟨vo, rfl, HV⟩
    have hb8 := HV.out.2
    have HC8 := Lib.hid (HC7.out.below hb8)
    have HB8 := Lib.hid (HB7.out.trans (hb8.mono HB7.out.size))
    have hvo := HV.out.1
    have hzz : ((z.toNat : Nat) : Int) = z := Int.toNat_of_nonneg HBB.out.2.2.1
    rw [hzz] at hvo
    subst hvo
    have HX2 := Lib.hid hb8
    clear HV HOP hzz
    clear HC7 HB7 hb8 c0 c1 c2 c3 c4
    obtain ⟨c0, c1, c2, c3, c4⟩ := case_cells HC8.out.row
    cases q
    rotate_left
    · go_wp2_with fail
      go_ret
      exact ⟨rfl, HB8.out⟩
    have htu : tu ≠ 0 := fun e => by have := HQ.out; rw [decide_eq_true e] at this; cases this
    obtain ⟨r, hr, hrr⟩ : ∃ r : Nat, r < 24 ∧ (i : Int).tmod 24 = (r : Int) := ⟨i % 24, Nat.mod_lt _ (by decide), by show ((i : Nat) : Int).tmod ((24 : Nat) : Int) = _; rw [← Int.ofNat_tmod]⟩
    have htl := ticketB_length key who z.toNat
    have HO3 := Lib.hid (own_below HO2.out HX2.out)
    have hwz : w6.heap.size ≤ w8.heap.size := Nat.le_trans HF2.out.size HX2.out.size
    obtain ⟨b2, hb2⟩ : ∃ b2, b2 = (ticketB key who z.toNat)[8 + r]'(by omega) := ⟨_, rfl⟩
    obtain ⟨hcx, hzx, HTX⟩ := own_turn HO3.out hg2 hwz hd2 hm2 (by decide) (8 + r) (by omega) tu
    rw [← hb2] at hcx HTX
    obtain ⟨x2, HXX2⟩ : ∃ x, Hid (x = b2 ^^^ tu) := ⟨_, Lib.hid rfl⟩
    have hxo2 : bits .xor .u8 (b2.toNat : Int) (tu.toNat : Int) = (x2.toNat : Int) := by rw [HXX2.out]; exact byte_xor b2 tu
    rw [← HXX2.out] at HTX
    have HB' := Lib.hid ((HF2.out.trans (HX2.out.mono HF2.out.size)).trans HTX.out.2)
    have HC9 := Lib.hid (HD2.out.below HB'.out)
    have HB9 := Lib.hid (HE2.out.trans (HB'.out.mono HE2.out.size))
    have HR9 := Lib.hid (open_no E 127 _ _ _ K kn kc who (some ⟨g2, 0, none⟩) 32 d2 key _ _ HC9.out.env HC9.out.key HTX.out.1 HBB.out.1 HBB.out.2.1 (slip_none key who z.toNat (8 + r) x2 (by have := HBB.out.2.2.2; omega) (by omega) (by omega) (by rw [HXX2.out, ← hb2]; exact xor_ne b2 tu htu)))
    have hi := HI.out
    have hI2 : (0 : Int) ≤ 8 + (r : Int) ∧ 8 + (r : Int) < ((32 : Nat) : Int) := by omega
    have hI3 : (8 + (r : Int)).toNat = 8 + r := by omega
    clear htl HO3 hwz HTX HB' HO2 hb2 HC8 HB8 htu hr
    have c5 := c0
    clear c0 c1 c2 c4 c5
    obtain ⟨c0, c1, c2, c3', c4⟩ := case_cells HC9.out.row
    go_wp2_with fail
    with_reducible refine HR9.out.mono ?_
    rintro e w9 ⟨rfl, HV⟩
    have hp9 := (HC9.out.env.below HC9.out.env.tab.1 HV.out).er.proof
    go_wp2_with fail
    go_ret
    exact ⟨rfl, HB9.out.trans (HV.out.mono HB9.out.size)⟩
  have HI := Lib.hid hi
  have HP := Lib.hid (prove_bad E 127 _ _ K kn kc M nn nc who w3 HC3.out.env hA)
  clear hi hA
  go_wp2_with fail
  with_reducible refine HP.out.mono ?_
  rintro e w4 ⟨rfl, HV⟩
  have hb4 := HV.out
  have HC4 := Lib.hid (HC3.out.below hb4)
  have HB4 := Lib.hid (HB3.out.trans (hb4.mono HB3.out.size))
  clear HV HP
  clear HC3 HB3 hb4 c0 c1 c2 c3 c4
  obtain ⟨c0, c1, c2, c3, c4⟩ := case_cells HC4.out.row
  by_cases hB : (1 ≤ kn ∧ kn ≤ 64) ∧ (1 ≤ who.size ∧ who.size ≤ 16) ∧ (0 ≤ z ∧ z ≤ 1099511627776)
  rotate_left
  · have HT := Lib.hid (ticket_bad E 127 _ _ K kn kc who z w4 HC4.out.env hB)
    clear hB heq heq2 hne
    go_wp2_with fail
    with_reducible refine HT.out.mono ?_
    rintro e wt ⟨rfl, HV⟩
    go_wp2_with fail
    go_ret
    exact ⟨rfl, HB4.out.trans (HV.out.mono HB4.out.size)⟩
  have HT := Lib.hid (ticket_ok E 127 _ _ K kn kc who z key w4 HC4.out.env HC4.out.key hB.1 hB.2.1 hB.2.2)
  have HBB := Lib.hid hB
  clear hB heq heq2 hne2
  go_wp2_with fail
  with_reducible refine HT.out.mono ?_
  rintro e w5 ⟨v4, rfl, HV⟩
  have hb5 := HV.out.2
  have HC5 := Lib.hid (HC4.out.below hb5)
  have HB5 := Lib.hid (HB4.out.trans (hb5.mono HB4.out.size))
  obtain ⟨g2, d2, rfl, hg2, hg2', hd2, hm2⟩ := own_some HV.out.1 (by decide)
  have HO2 := Lib.hid HV.out.1
  obtain ⟨_, _, e4, hk4, _⟩ := own_key HV.out.1 (by decide)
  injection e4 with e41 e42 e43
  subst e41 e43
  have HD2 := HC4
  have HE2 := HB4
  have HF2 := Lib.hid HV.out.2
  have HOP := Lib.hid (open_yes E 127 _ _ K kn kc who _ 32 d2 key _ z.toNat w5 HC5.out.env HC5.out.key hk4 HBB.out.1 HBB.out.2.1 (open_ticket key who z.toNat (by have := HBB.out.2.2.2; omega)))
  clear HV HT hk4
  clear HC4 HB4 hb5 c0 c1 c2 c3 c4
  obtain ⟨c0, c1, c2, c3, c4⟩ := case_cells HC5.out.row
  go_wp2_with fail
  with_reducible refine HOP.out.mono ?_
  rintro e w6 ⟨vo, rfl, HV⟩
  have hb6 := HV.out.2
  have HC6 := Lib.hid (HC5.out.below hb6)
  have HB6 := Lib.hid (HB5.out.trans (hb6.mono HB5.out.size))
  have hvo := HV.out.1
  have hzz : ((z.toNat : Nat) : Int) = z := Int.toNat_of_nonneg HBB.out.2.2.1
  rw [hzz] at hvo
  subst hvo
  have HX2 := Lib.hid hb6
  clear HV HOP hzz
  clear HC5 HB5 hb6 c0 c1 c2 c3 c4
  obtain ⟨c0, c1, c2, c3, c4⟩ := case_cells HC6.out.row
  cases q
  rotate_left
  · go_wp2_with fail
    go_ret
    exact ⟨rfl, HB6.out⟩
  have htu : tu ≠ 0 := fun e => by have := HQ.out; rw [decide_eq_true e] at this; cases this
  obtain ⟨r, hr, hrr⟩ : ∃ r : Nat, r < 24 ∧ (i : Int).tmod 24 = (r : Int) := ⟨i % 24, Nat.mod_lt _ (by decide), by show ((i : Nat) : Int).tmod ((24 : Nat) : Int) = _; rw [← Int.ofNat_tmod]⟩
  have htl := ticketB_length key who z.toNat
  have HO3 := Lib.hid (own_below HO2.out HX2.out)
  have hwz : w4.heap.size ≤ w6.heap.size := Nat.le_trans HF2.out.size HX2.out.size
  obtain ⟨b2, hb2⟩ : ∃ b2, b2 = (ticketB key who z.toNat)[8 + r]'(by omega) := ⟨_, rfl⟩
  obtain ⟨hcx, hzx, HTX⟩ := own_turn HO3.out hg2 hwz hd2 hm2 (by decide) (8 + r) (by omega) tu
  rw [← hb2] at hcx HTX
  obtain ⟨x2, HXX2⟩ : ∃ x, Hid (x = b2 ^^^ tu) := ⟨_, Lib.hid rfl⟩
  have hxo2 : bits .xor .u8 (b2.toNat : Int) (tu.toNat : Int) = (x2.toNat : Int) := by rw [HXX2.out]; exact byte_xor b2 tu
  rw [← HXX2.out] at HTX
  have HB' := Lib.hid ((HF2.out.trans (HX2.out.mono HF2.out.size)).trans HTX.out.2)
  have HC9 := Lib.hid (HD2.out.below HB'.out)
  have HB9 := Lib.hid (HE2.out.trans (HB'.out.mono HE2.out.size))
  have HR9 := Lib.hid (open_no E 127 _ _ _ K kn kc who (some ⟨g2, 0, none⟩) 32 d2 key _ _ HC9.out.env HC9.out.key HTX.out.1 HBB.out.1 HBB.out.2.1 (slip_none key who z.toNat (8 + r) x2 (by have := HBB.out.2.2.2; omega) (by omega) (by omega) (by rw [HXX2.out, ← hb2]; exact xor_ne b2 tu htu)))
  have hi := HI.out
  have hI2 : (0 : Int) ≤ 8 + (r : Int) ∧ 8 + (r : Int) < ((32 : Nat) : Int) := by omega
  have hI3 : (8 + (r : Int)).toNat = 8 + r := by omega
  clear htl HO3 hwz HTX HB' HO2 hb2 HC6 HB6 htu hr
  have c5 := c0
  clear c0 c1 c2 c4 c5
  obtain ⟨c0, c1, c2, c3', c4⟩ := case_cells HC9.out.row
  go_wp2_with fail
  with_reducible refine HR9.out.mono ?_
  rintro e w9 ⟨rfl, HV⟩
  have hp9 := (HC9.out.env.below HC9.out.env.tab.1 HV.out).er.proof
  go_wp2_with fail
  go_ret
  exact ⟨rfl, HB9.out.trans (HV.out.mono HB9.out.size)⟩
end Go.Proofs.YtchnbknbccpmcaaDoor
