/- The law ProofTells, where the three conditions are false, false, false. -/
import Derived.Test.YtchnbknbccpmcaaDoorTew
namespace Go.Proofs.YtchnbknbccpmcaaDoor
open Go.RowKit
open Go.Proofs.YtchnbknbccpmcaaDoor.H

set_option maxRecDepth 100000 in
set_option maxHeartbeats 4000000 in
theorem tells_0 (E : Nat → Value) (ad : Nat → Addr) (K : Option Addr) (kn kc : Nat) (key : List UInt8) (M : Option Addr) (nn nc : Nat) (nonce : List UInt8) (who : ByteArray) (z : Int) (T : Option Addr) (n d : Nat) (bs : List UInt8) (w : World)
    (hE : Env w E (.iface 127 (.pointer (some (ad 0)))) (.iface 127 (.pointer (some (ad 1))))) (h18 : Eighteen w ad) (hk : KeyAt w K kn kc key) (hm : KeyAt w M nn nc nonce) (ht : KeyAt w T n d bs) (hb1 : condA kn z = false) (hb2 : condB kn nn who = false) (hb3 : condC kn who z = false) :
    Calls Tryd.prog 3 #[.agg #[.slice K kn kc, .slice M nn nc, .string who, .int .i64 z, .slice T n d]] w fun e w' => e = .returned (.bool true) ∧ Below w.heap.size w w' := by
  have HEI := Lib.hid h18
  have HB1h := Lib.hid hb1
  have HB2h := Lib.hid hb2
  have HB3h := Lib.hid hb3
  clear hb1 hb2 hb3
  clear h18
  have HC1 := Lib.hid (Case.new (who := who) (z := z) hE hk hm ht)
  have HB1 := Lib.hid (below_alloc' w (.cells #[.slice K kn kc, .slice M nn nc, .string who, .int .i64 z, .slice T n d] 24))
  generalize hw1 : w.alloc (.cells #[.slice K kn kc, .slice M nn nc, .string who, .int .i64 z, .slice T n d] 24) = w1 at *
  have HW1 := Lib.hid hw1
  clear hE hk hm ht hw1
  have hnot : ∀ (x : Bool) (w : World), (Op.unary .not (.bool x)).run Tryd.prog w = .ok (.bool (!x)) w := fun _ _ => rfl
  go_enter Tryd.func3, Tryd.ntmps3
  go_wp2_with fail
  rw [HW1.out]
  with_reducible refine (alive_any E (ad 0) (ad 1) w1 HC1.out.env).mono ?_
  rintro e w2 ⟨rfl, HV⟩
  have HC2 := Lib.hid (HC1.out.below HV.out)
  have HB2 := Lib.hid (HB1.out.trans (HV.out.mono HB1.out.size))
  clear HC1 HB1 HV HW1
  obtain ⟨c0, c1, c2, c3, c4⟩ := case_cells HC2.out.row
  go_wp2_with fail
  with_reducible refine (long_any K kn kc M nn nc who z T n d w2).mono ?_
  rintro e w3 ⟨rfl, HV⟩
  have hb3 := HV.out
  have HC3 := Lib.hid (HC2.out.below hb3)
  have HB3 := Lib.hid (HB2.out.trans (hb3.mono HB2.out.size))
  clear HV
  clear HC2 HB2 hb3 c0 c1 c2 c3 c4
  obtain ⟨c0, c1, c2, c3, c4⟩ := case_cells HC3.out.row
  by_cases hl : 3000 < kn ∨ 3000 < nn ∨ 3000 < who.size ∨ 3000 < n
  · rw [decide_eq_true hl]
    go_wp2_with fail
    go_ret
    exact ⟨rfl, HB3.out⟩
  rw [decide_eq_false hl]
  have HSM : Hid (kn ≤ 3000 ∧ nn ≤ 3000 ∧ n ≤ 3000) := Lib.hid (by omega)
  clear hl
  have heq : ∀ (w : World), (binOp BinOp.eql 30 .nilIface .nilIface).run Tryd.prog w = .ok (.bool true) w := fun _ => by kernel_rfl
  have heq2 : ∀ (t : TypeId) (u : Value) (w : World), (binOp BinOp.eql 30 (.iface t u) .nilIface).run Tryd.prog w = .ok (.bool false) w := fun _ _ _ => by kernel_rfl
  have hne : ∀ (w : World), (binOp BinOp.neq 30 .nilIface .nilIface).run Tryd.prog w = .ok (.bool false) w := fun _ => by kernel_rfl
  have hne2 : ∀ (t : TypeId) (u : Value) (w : World), (binOp BinOp.neq 30 (.iface t u) .nilIface).run Tryd.prog w = .ok (.bool true) w := fun _ _ _ => by kernel_rfl
  clear heq heq2 hne hne2
  go_wp2_with fail
  with_reducible refine (new_any w3).mono ?_
  rintro e w4 ⟨g, rfl, HV⟩
  have hb4 := HV.out.2
  have HC4 := Lib.hid (HC3.out.below hb4)
  have HB4 := Lib.hid (HB3.out.trans (hb4.mono HB3.out.size))
  have HT4 := Lib.hid HV.out.1
  clear HV
  clear HC3 HB3 hb4 c0 c1 c2 c3 c4
  obtain ⟨c0, c1, c2, c3, c4⟩ := case_cells HC4.out.row
  have HY1 : Hid (∀ w', Below w4.heap.size w4 w' → Calls Tryd.prog 10 #[.slice K kn kc] w' fun e w'' => ∃ X d, e = .returned (.slice X kn d) ∧ Hid (CopyAt w'' X kn d key ∧ Below w'.heap.size w' w'')) := Lib.hid fun w' hb => copy_any K kn kc key w' (HC4.out.below hb).key HSM.out.1
  have HY2 : Hid (∀ w', Below w4.heap.size w4 w' → Calls Tryd.prog 10 #[.slice M nn nc] w' fun e w'' => ∃ X d, e = .returned (.slice X nn d) ∧ Hid (CopyAt w'' X nn d nonce ∧ Below w'.heap.size w' w'')) := Lib.hid fun w' hb => copy_any M nn nc nonce w' (HC4.out.below hb).nonce HSM.out.2.1
  have HY3 : Hid (∀ w', Below w4.heap.size w4 w' → Calls Tryd.prog 10 #[.slice T n d] w' fun e w'' => ∃ X d, e = .returned (.slice X n d) ∧ Hid (CopyAt w'' X n d bs ∧ Below w'.heap.size w' w'')) := Lib.hid fun w' hb => copy_any T n d bs w' (HC4.out.below hb).bytes HSM.out.2.2
  clear c2 c3
  go_wp2_with fail
  have hlt := HC4.out.row.lt
  go_region_held3 (fun w' => w'.cell? ⟨w.heap.size, 0, none⟩ = some (.slice K kn kc) ∧ w'.cell? ⟨w.heap.size, 1, none⟩ = some (.slice M nn nc) ∧ w'.cell? ⟨w.heap.size, 4, none⟩ = some (.slice T n d))
    (first | exact ⟨c0, c1, c4⟩ | exact ⟨(HX.out.cell (p := ⟨w.heap.size, 0, none⟩) hlt).trans c0, (HX.out.cell (p := ⟨w.heap.size, 1, none⟩) hlt).trans c1, (HX.out.cell (p := ⟨w.heap.size, 4, none⟩) hlt).trans c4⟩)
    (first
      | (go_at_call 10; (with_reducible refine (HY1.out _ ?_).mono ?_); (exact (Below.refl _ _).drew); rintro e w5 ⟨X1, d1, rfl, HV1⟩; have HX : Hid (Below w4.heap.size w4 w5) := Lib.hid ((Below.refl w4.heap.size w4).drew.trans HV1.out.2))
      | (go_at_call 10; (with_reducible refine (HY2.out _ HX.out).mono ?_); rintro e w6 ⟨X2, d2, rfl, HV2⟩; have HX := Lib.hid (HX.out.trans (HV2.out.2.mono HX.out.size)))
      | (go_at_call 10; (with_reducible refine (HY3.out _ HX.out).mono ?_); rintro e w7 ⟨X3, d3, rfl, HV3⟩; have HX := Lib.hid (HX.out.trans (HV3.out.2.mono HX.out.size))))
  have HX1 := Lib.hid ((HV1.out.1.below HV2.out.2).below HV3.out.2)
  have HX2 := Lib.hid (HV2.out.1.below HV3.out.2)
  have HX3 := Lib.hid HV3.out.1
  have HC := Lib.hid (HC4.out.below HX.out)
  have HB := Lib.hid (HB4.out.trans (HX.out.mono HB4.out.size))
  have HT := Lib.hid (tab_next HT4.out HX.out)
  clear HV1 HV2 HV3 HX HC4 HB4 HT4 HY1 HY2 HY3 c0 c1 c4 hlt
  obtain ⟨c0, c1, c2, c3, c4⟩ := case_cells HC.out.row
  have HS1 := Lib.hid HSM.out
  go_wp2_with fail
  with_reducible refine (nonce_all E (ad 0) (.iface 127 (.pointer (some (ad 1)))) X1 kn d1 key z w7 HC.out.env HX1.out.key).mono ?_
  rintro e w8 ⟨A1, n1, e1, rfl, HV⟩
  have hb := HV.out.2
  replace HX1 := Lib.hid (HX1.out.below hb)
  replace HX2 := Lib.hid (HX2.out.below hb)
  replace HX3 := Lib.hid (HX3.out.below hb)
  replace HC := Lib.hid (HC.out.below hb)
  replace HT := Lib.hid (tab_next HT.out hb)
  replace HB := Lib.hid (HB.out.trans (hb.mono HB.out.size))
  have HR1 := Lib.hid HV.out.1
  clear HV
  clear hb c0 c1 c2 c3 c4
  obtain ⟨c0, c1, c2, c3, c4⟩ := case_cells HC.out.row
  go_wp2_with fail
  with_reducible refine (prove_all E (ad 0) (.iface 127 (.pointer (some (ad 1)))) X1 kn d1 key X2 nn d2 nonce who w8 HC.out.env HX1.out.key HX2.out.key).mono ?_
  rintro e w9 ⟨A2, n2, e2, rfl, HV⟩
  have hb := HV.out.2
  replace HX1 := Lib.hid (HX1.out.below hb)
  replace HX2 := Lib.hid (HX2.out.below hb)
  replace HX3 := Lib.hid (HX3.out.below hb)
  replace HC := Lib.hid (HC.out.below hb)
  replace HR1 := Lib.hid (HR1.out.below hb)
  replace HT := Lib.hid (tab_next HT.out hb)
  replace HB := Lib.hid (HB.out.trans (hb.mono HB.out.size))
  have HR2 := Lib.hid HV.out.1
  clear HV
  clear hb c0 c1 c2 c3 c4
  obtain ⟨c0, c1, c2, c3, c4⟩ := case_cells HC.out.row
  go_wp2_with fail
  with_reducible refine (ticket_all E (ad 0) (.iface 127 (.pointer (some (ad 1)))) X1 kn d1 key who z w9 HC.out.env HX1.out.key).mono ?_
  rintro e w10 ⟨A3, n3, e3, rfl, HV⟩
  have hb := HV.out.2
  replace HX1 := Lib.hid (HX1.out.below hb)
  replace HX2 := Lib.hid (HX2.out.below hb)
  replace HX3 := Lib.hid (HX3.out.below hb)
  replace HC := Lib.hid (HC.out.below hb)
  replace HR1 := Lib.hid (HR1.out.below hb)
  replace HR2 := Lib.hid (HR2.out.below hb)
  replace HT := Lib.hid (tab_next HT.out hb)
  replace HB := Lib.hid (HB.out.trans (hb.mono HB.out.size))
  have HR3 := Lib.hid HV.out.1
  clear HV
  clear hb c0 c1 c2 c3 c4
  obtain ⟨c0, c1, c2, c3, c4⟩ := case_cells HC.out.row
  go_wp2_with fail
  with_reducible refine (open_all E (ad 0) (ad 1) X1 kn d1 key who X3 n d3 bs w10 HC.out.env HX1.out.key HX3.out.key).mono ?_
  rintro e w11 ⟨rfl, HV⟩
  have hb := HV.out
  replace HX1 := Lib.hid (HX1.out.below hb)
  replace HX2 := Lib.hid (HX2.out.below hb)
  replace HX3 := Lib.hid (HX3.out.below hb)
  replace HC := Lib.hid (HC.out.below hb)
  replace HR1 := Lib.hid (HR1.out.below hb)
  replace HR2 := Lib.hid (HR2.out.below hb)
  replace HR3 := Lib.hid (HR3.out.below hb)
  replace HT := Lib.hid (tab_next HT.out hb)
  replace HB := Lib.hid (HB.out.trans (hb.mono HB.out.size))
  clear HV
  clear hb c0 c1 c2 c3 c4
  obtain ⟨c0, c1, c2, c3, c4⟩ := case_cells HC.out.row
  go_wp2_with fail
  with_reducible refine (right_all E 127 _ _ X1 kn d1 X2 nn d2 who X3 n d3 key nonce bs w11 HC.out.env HX1.out.key HX2.out.key HX3.out.key).mono ?_
  rintro e w12 ⟨rfl, HV⟩
  have hb := HV.out
  replace HX1 := Lib.hid (HX1.out.below hb)
  replace HX2 := Lib.hid (HX2.out.below hb)
  replace HX3 := Lib.hid (HX3.out.below hb)
  replace HC := Lib.hid (HC.out.below hb)
  replace HR1 := Lib.hid (HR1.out.below hb)
  replace HR2 := Lib.hid (HR2.out.below hb)
  replace HR3 := Lib.hid (HR3.out.below hb)
  replace HT := Lib.hid (tab_next HT.out hb)
  replace HB := Lib.hid (HB.out.trans (hb.mono HB.out.size))
  clear HV
  clear hb c0 c1 c2 c3 c4
  obtain ⟨c0, c1, c2, c3, c4⟩ := case_cells HC.out.row
  go_wp2_with fail
  with_reducible refine (rnonce_all g K kn kc key z w12 HT.out HC.out.key).mono ?_
  rintro e w13 ⟨A5, n5, e5, rfl, HV⟩
  have hb := HV.out.2
  replace HX1 := Lib.hid (HX1.out.below hb)
  replace HX2 := Lib.hid (HX2.out.below hb)
  replace HX3 := Lib.hid (HX3.out.below hb)
  replace HC := Lib.hid (HC.out.below hb)
  replace HR1 := Lib.hid (HR1.out.below hb)
  replace HR2 := Lib.hid (HR2.out.below hb)
  replace HR3 := Lib.hid (HR3.out.below hb)
  replace HT := Lib.hid (tab_next HT.out hb)
  replace HB := Lib.hid (HB.out.trans (hb.mono HB.out.size))
  have HR5 := Lib.hid HV.out.1
  clear HV
  clear hb c0 c1 c2 c3 c4
  obtain ⟨c0, c1, c2, c3, c4⟩ := case_cells HC.out.row
  go_wp2_with fail
  with_reducible refine (rprove_all g K kn kc key M nn nc nonce who w13 HT.out HC.out.key HC.out.nonce).mono ?_
  rintro e w14 ⟨A6, n6, e6, rfl, HV⟩
  have hb := HV.out.2
  replace HX1 := Lib.hid (HX1.out.below hb)
  replace HX2 := Lib.hid (HX2.out.below hb)
  replace HX3 := Lib.hid (HX3.out.below hb)
  replace HC := Lib.hid (HC.out.below hb)
  replace HR1 := Lib.hid (HR1.out.below hb)
  replace HR2 := Lib.hid (HR2.out.below hb)
  replace HR3 := Lib.hid (HR3.out.below hb)
  replace HR5 := Lib.hid (HR5.out.below hb)
  replace HT := Lib.hid (tab_next HT.out hb)
  replace HB := Lib.hid (HB.out.trans (hb.mono HB.out.size))
  have HR6 := Lib.hid HV.out.1
  clear HV
  clear hb c0 c1 c2 c3 c4
  obtain ⟨c0, c1, c2, c3, c4⟩ := case_cells HC.out.row
  go_wp2_with fail
  with_reducible refine (rticket_all g K kn kc key who z w14 HT.out HC.out.key).mono ?_
  rintro e w15 ⟨A7, n7, e7, rfl, HV⟩
  have hb := HV.out.2
  replace HX1 := Lib.hid (HX1.out.below hb)
  replace HX2 := Lib.hid (HX2.out.below hb)
  replace HX3 := Lib.hid (HX3.out.below hb)
  replace HC := Lib.hid (HC.out.below hb)
  replace HR1 := Lib.hid (HR1.out.below hb)
  replace HR2 := Lib.hid (HR2.out.below hb)
  replace HR3 := Lib.hid (HR3.out.below hb)
  replace HR5 := Lib.hid (HR5.out.below hb)
  replace HR6 := Lib.hid (HR6.out.below hb)
  replace HT := Lib.hid (tab_next HT.out hb)
  replace HB := Lib.hid (HB.out.trans (hb.mono HB.out.size))
  have HR7 := Lib.hid HV.out.1
  clear HV
  clear hb c0 c1 c2 c3 c4
  obtain ⟨c0, c1, c2, c3, c4⟩ := case_cells HC.out.row
  go_wp2_with fail
  with_reducible refine (ropen_all g K kn kc key who T n d bs w15 HT.out HC.out.key HC.out.bytes).mono ?_
  rintro e w16 ⟨rfl, HV⟩
  have hb := HV.out
  replace HX1 := Lib.hid (HX1.out.below hb)
  replace HX2 := Lib.hid (HX2.out.below hb)
  replace HX3 := Lib.hid (HX3.out.below hb)
  replace HC := Lib.hid (HC.out.below hb)
  replace HR1 := Lib.hid (HR1.out.below hb)
  replace HR2 := Lib.hid (HR2.out.below hb)
  replace HR3 := Lib.hid (HR3.out.below hb)
  replace HR5 := Lib.hid (HR5.out.below hb)
  replace HR6 := Lib.hid (HR6.out.below hb)
  replace HR7 := Lib.hid (HR7.out.below hb)
  replace HT := Lib.hid (tab_next HT.out hb)
  replace HB := Lib.hid (HB.out.trans (hb.mono HB.out.size))
  clear HV
  clear hb c0 c1 c2 c3 c4
  obtain ⟨c0, c1, c2, c3, c4⟩ := case_cells HC.out.row
  have h18 := HEI.out.below HEI.out.lt HB.out
  have HNV := Lib.hid (numV ad kn key who bs w16 h18)
  have hes := err_same (ad 0)
  have hrg := HC.out.env.er.range
  have heq : ∀ (w : World), (binOp BinOp.eql 30 .nilIface .nilIface).run Tryd.prog w = .ok (.bool true) w := fun _ => by kernel_rfl
  have heq2 : ∀ (t : TypeId) (u : Value) (w : World), (binOp BinOp.eql 30 (.iface t u) .nilIface).run Tryd.prog w = .ok (.bool false) w := fun _ _ _ => by kernel_rfl
  have hbb : ∀ (x : Bool) (w : World), (binOp BinOp.eql 4 (.bool x) (.bool x)).run Tryd.prog w = .ok (.bool true) w := fun x w => by cases x <;> kernel_rfl
  have cv1 := HR1.out.rd.toStr n1 e1 HR1.out.len
  have cv2 := HR2.out.rd.toStr n2 e2 HR2.out.len
  have cv3 := HR3.out.rd.toStr n3 e3 HR3.out.len
  have cv5 := HR5.out.rd.toStr n5 e5 HR5.out.len
  have cv6 := HR6.out.rd.toStr n6 e6 HR6.out.len
  have cv7 := HR7.out.rd.toStr n7 e7 HR7.out.len
  have cvx := HC.out.bytes.rd.toStr n d HC.out.bytes.len
  have hq : condB kn nn who = true → ((⟨(orNone (condB kn nn who) (proveB key nonce who)).toArray⟩ : ByteArray).toList == (⟨bs.toArray⟩ : ByteArray).toList) = decide (bs = proveB key nonce who) := by
    intro hb
    rw [hb]
    show ((⟨(proveB key nonce who).toArray⟩ : ByteArray).toList == _) = _
    by_cases h : bs = proveB key nonce who
    · rw [decide_eq_true h, ← h, beq_self_eq_true]
    · rw [decide_eq_false h]
      exact toList_neO (fun e => h (bytes_same.1 e).symm)
  clear HR1 HR2 HR3 HR5 HR7 h18
  generalize (⟨(orNone (condA kn z) (nonceB key z.toNat)).toArray⟩ : ByteArray) = s1 at *
  generalize hs2 : (⟨(orNone (condB kn nn who) (proveB key nonce who)).toArray⟩ : ByteArray) = s2 at *
  generalize (⟨(orNone (condC kn who z) (ticketB key who z.toNat)).toArray⟩ : ByteArray) = s3 at *
  generalize hsx : (⟨bs.toArray⟩ : ByteArray) = sx at *
  have HS2 := Lib.hid hs2
  have HSX := Lib.hid hsx
  clear hs2 hsx
  generalize decide (bs = proveB key nonce who) = q at *
  generalize openK kn key who bs = kk at *
  generalize openN kn key who bs = rr at *
  generalize openV (ad 0) (ad 1) kk = ev at *
  have hb1 := HB1h.out
  have hb2 := HB2h.out
  have hb3 := HB3h.out
  clear HB1h HB2h HB3h
  generalize condA kn z = b1 at *
  generalize condB kn nn who = b2 at *
  generalize condC kn who z = b3 at *
  subst hb1 hb2 hb3
  clear hq
  simp only [errv_false, Bool.false_and]
  go_wp2_with fail
  clear cv1 cv2 cv3 cv5 cv6 cv7 cvx heq heq2 hes hrg
  with_reducible refine HNV.out.mono ?_
  rintro e w17 ⟨rfl, HV⟩
  have hb := HV.out
  replace HX1 := Lib.hid (HX1.out.below hb)
  replace HX2 := Lib.hid (HX2.out.below hb)
  replace HX3 := Lib.hid (HX3.out.below hb)
  replace HC := Lib.hid (HC.out.below hb)
  replace HR6 := Lib.hid (HR6.out.below hb)
  replace HT := Lib.hid (tab_next HT.out hb)
  replace HB := Lib.hid (HB.out.trans (hb.mono HB.out.size))
  clear HV HNV
  clear hb c0 c1 c2 c3 c4
  obtain ⟨c0, c1, c2, c3, c4⟩ := case_cells HC.out.row
  have cv6 := HR6.out.rd.toStr n6 e6 HR6.out.len
  rw [HS2.out] at cv6
  have cvx := HC.out.bytes.rd.toStr n d HC.out.bytes.len
  rw [HSX.out] at cvx
  clear HS2 HSX
  go_wp2_with fail
  with_reducible refine (kept_at K X1 kn kc d1 key w17 HX1.out HC.out.key HSM.out.1).mono ?_
  rintro e w18 ⟨rfl, HV⟩
  have hb := HV.out
  replace HX1 := Lib.hid (HX1.out.below hb)
  replace HX2 := Lib.hid (HX2.out.below hb)
  replace HX3 := Lib.hid (HX3.out.below hb)
  replace HC := Lib.hid (HC.out.below hb)
  replace HT := Lib.hid (tab_next HT.out hb)
  replace HB := Lib.hid (HB.out.trans (hb.mono HB.out.size))
  clear HV
  clear hb c0 c1 c2 c3 c4
  obtain ⟨c0, c1, c2, c3, c4⟩ := case_cells HC.out.row
  clear cv6 cvx HR6
  go_wp2_with fail
  with_reducible refine (kept_at M X2 nn nc d2 nonce w18 HX2.out HC.out.nonce HSM.out.2.1).mono ?_
  rintro e w19 ⟨rfl, HV⟩
  have hb := HV.out
  replace HX1 := Lib.hid (HX1.out.below hb)
  replace HX2 := Lib.hid (HX2.out.below hb)
  replace HX3 := Lib.hid (HX3.out.below hb)
  replace HC := Lib.hid (HC.out.below hb)
  replace HT := Lib.hid (tab_next HT.out hb)
  replace HB := Lib.hid (HB.out.trans (hb.mono HB.out.size))
  clear HV
  clear hb c0 c1 c2 c3 c4
  obtain ⟨c0, c1, c2, c3, c4⟩ := case_cells HC.out.row
  go_wp2_with fail
  with_reducible refine (kept_at T X3 n d d3 bs w19 HX3.out HC.out.bytes HSM.out.2.2).mono ?_
  rintro e w20 ⟨rfl, HV⟩
  have hb := HV.out
  replace HX1 := Lib.hid (HX1.out.below hb)
  replace HX2 := Lib.hid (HX2.out.below hb)
  replace HX3 := Lib.hid (HX3.out.below hb)
  replace HC := Lib.hid (HC.out.below hb)
  replace HT := Lib.hid (tab_next HT.out hb)
  replace HB := Lib.hid (HB.out.trans (hb.mono HB.out.size))
  clear HV
  clear hb c0 c1 c2 c3 c4
  obtain ⟨c0, c1, c2, c3, c4⟩ := case_cells HC.out.row
  go_wp2_with fail
  go_ret
  exact ⟨rfl, HB.out⟩
end Go.Proofs.YtchnbknbccpmcaaDoor
