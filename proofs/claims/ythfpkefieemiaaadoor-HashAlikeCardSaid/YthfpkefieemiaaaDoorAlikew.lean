/- The law HashAlike: Alike and Hex of all bytes. -/
import Derived.Test.YthfpkefieemiaaaDoorChecksw
namespace Go.Proofs.YthfpkefieemiaaaDoor
open Go.RowKit

theorem step_append_rd {ops : Array Oper} {o : Oper} {a : Act} {w : World} {K : Act → World → Prop} {Q : Exit → Act → World → Prop} {E : Prop} (hgd : Region.wanted o (yielded ops a.tmps) = true) (t x : Operand)
    (ho : o.op = .call { callee := .builtin .append, args := #[t, x], argTypes := #[25, 25] }) (base : Nat) (v : Value) (n : Nat) (xs : List Value) (hs : a.eval t = v) (hown : w.ownsRow base 5 1 v n xs) (B : Nat) (A : Option Addr) (m c : Nat) (bs : List UInt8)
    (hx : a.eval x = .slice A m c) (hm : bs.length = m) (hr : Rd w B A (bs.map bv)) (hb : n + m ≤ 140737488355328) (hbase : base ≤ w.heap.size)
    (h : ∀ v' w', Hid (w'.ownsRow base 5 1 v' (n + m) (xs ++ bs.map bv) ∧ w.grownBy w' v.ownBlock) → K (a.put o.dst v') w') :
    if Region.wanted o (yielded ops a.tmps) = true then Oper.wp Tryd.prog o a w K Q else E := by
  rw [if_pos hgd]
  obtain ⟨v', w', hr2, h2, h3, _⟩ := run_append_rd w base v n xs hown B A m c bs hm hr hb hbase o.type
  unfold Oper.wp execOp
  simp only [ho, resolve, invoke, builtin, Sem.run_bind, Sem.run_pure, Result.andThen_ok, List.map_toArray, List.map_cons, List.map_nil, hs, hx, hr2]
  exact h v' w' ⟨h2, h3⟩

set_option maxHeartbeats 1000000 in
theorem alikelaw_any (n c m d : Nat) (A B : Option Addr) (xs ys : List UInt8) (w : World) (hK : Ktab w) (hn : xs.length = n) (hm : ys.length = m) (hc : n ≤ 9223372036854775807) (hr : Rd w w.heap.size A (xs.map bv)) (hr2 : Rd w w.heap.size B (ys.map bv)) :
    Calls Tryd.prog 6 #[.slice A n c, .slice B m d] w fun e w' => e = .returned (.bool true) ∧ Below w.heap.size w w' := by
  have HK := Lib.hid hK
  have HN := Lib.hid hn
  have HM := Lib.hid hm
  have HR := Lib.hid hr
  have HR2 := Lib.hid hr2
  clear hK hn hm hr hr2
  go_enter Tryd.func6, Tryd.ntmps6
  go_wp2_with fail
  with_reducible refine (alive_any w HK.out).mono ?_
  rintro e w1 ⟨rfl, HB1⟩
  by_cases hbig : 20000 < n
  · go_wp2_with fail
    go_ret
    exact ⟨rfl, HB1.out⟩
  have hsz1 : w.heap.size ≤ w1.heap.size := HB1.out.size
  have HB2 := Lib.hid (HB1.out.alloc hsz1 (.cells #[] 5))
  have HO2 := Lib.hid (own_empty w1 w.heap.size hsz1)
  go_wp2_with fail
  go_loopw [5, 16] (fun v i W => ∃ k : Nat, k ≤ n ∧ i = .int .i64 k ∧ Shut (W.ownsRow w.heap.size 5 1 v (2 * k) ((hexS (xs.take k)).map bv) ∧ Below w.heap.size w W)) (fun _ i _ => n - (intOf i).toNat)
  case atStart => exact ⟨0, Nat.zero_le _, rfl, ⟨HO2.out, HB2.out⟩⟩
  case round =>
    clear HO2 HB2
    obtain ⟨k, hk, rfl, HS⟩ := hrel
    by_cases hlt : k < n
    · have hk2 : k < xs.length := by rw [HN.out]; exact hlt
      obtain ⟨ad, rfl, _, hcl⟩ := (HR.out.below HS.out.2).cell (k := k) (u := bv xs[k]) (by simp [hk2])
      have htk := hexS_take xs k hk2
      generalize xs[k] = b at *
      unfold bv at hcl
      have HTK := Lib.hid htk
      clear htk
      have hb := b.toNat_lt
      have p1 : (0 : Int) ≤ (b.toNat : Int) / 16 := by omega
      have p2 : (b.toNat : Int) / 16 < 16 := by omega
      have p3 : (0 : Int) ≤ (b.toNat : Int) % 16 := by omega
      have p4 : (b.toNat : Int) % 16 < 16 := by omega
      have hszW : w.heap.size ≤ wr.heap.size := HS.out.2.size
      have hw16 : IntKind.u8.wrap ((b.toNat : Int) / 16) = (b.toNat : Int) / 16 := by rw [IntKind.wrap_u8]; omega
      have ht16 : (b.toNat : Int).tmod 16 = (b.toNat : Int) % 16 := Int.tmod_eq_emod_of_nonneg (by omega)
      go_wp2_with fail
      have HOD : Hid (wr.drew.ownsRow w.heap.size 5 1 u5 (2 * k) ((hexS (xs.take k)).map bv)) := Lib.hid HS.out.1.drew
      go_region_law (refine step_append_at rfl (.tmp 20) (.tmp 27) rfl w.heap.size u5 (2 * k) ((hexS (xs.take k)).map bv) rfl (HOD.out.alloc _) ⟨wr.heap.size, 0, none⟩ 2 2 [_, _] rfl rfl (cells_new wr.drew _ 5) (by simp [Value.oneCell']) (by omega) (by simp; omega) ?_; intro v3 w3 HA3)
      all_goals
        have HA4 : Shut (w3.ownsRow w.heap.size 5 1 v3 (2 * (k + 1)) ((hexS (xs.take (k + 1))).map bv) ∧ Below w.heap.size w w3) := ⟨by
          have h1 := HA3.out.1
          rw [digit_hi, digit_lo] at h1
          refine ⟨by rw [HTK.out, List.map_append]; exact h1, ?_⟩
          have hb1 := HS.out.2.drew.alloc (by exact hszW) (.cells #[bv (digL.getD (b.toNat / 16) 0), bv (digL.getD (b.toNat % 16) 0)] 5)
          have h2 := HA3.out.2
          simp only [digit_hi, digit_lo] at h2
          exact hb1.grown h2 (Nat.le_trans hszW (by simp)) (fun j hj => (HS.out.1.lt j hj).1)⟩
        clear HA3 HOD
        go_wp2_with fail
        exact ⟨⟨k + 1, by omega, by go_num, HA4⟩, by simp [intOf]; omega⟩
    · have hown := HS.out.1
      rw [List.take_of_length_le (by rw [HN.out]; omega)] at hown
      obtain ⟨A9, c9, rfl, hl9, _, _, hr9, _⟩ := own_slice hown
      have HBR := Lib.hid HS.out.2
      have hszr : w.heap.size ≤ wr.heap.size := HBR.out.size
      have HRX := Lib.hid ((HR.out.below HBR.out).more hszr)
      have HRY := Lib.hid ((HR2.out.below HBR.out).more hszr)
      have HST : Hid (∀ w', Below wr.heap.size wr w' → (convert 25 9 (.slice A n c)).run Tryd.prog w' = .ok (.string ⟨xs.toArray⟩) w' ∧ (convert 25 9 (.slice B m d)).run Tryd.prog w' = .ok (.string ⟨ys.toArray⟩) w' ∧ (convert 25 9 (.slice A9 (2 * k) c9)).run Tryd.prog w' = .ok (.string ⟨(hexS xs).toArray⟩) w') := Lib.hid (fun w' hb =>
        ⟨Rd.toStr ((HRX.out.below hb).more hb.size) n c HN.out, Rd.toStr ((HRY.out.below hb).more hb.size) m d HM.out, Rd.toStr ((hr9.below hb).more hb.size) (2 * k) c9 hl9⟩)
      clear hown hl9 hr9 HS
      have hbd : Below wr.heap.size wr wr.drew := (Below.refl _ _).drew
      have HBD := Lib.hid hbd
      have HC1 : Hid (Calls Tryd.prog 21 #[.slice A n c, .slice B m d] wr.drew fun e w' => e = .returned (.bool (sameB xs ys)) ∧ Hid (Below wr.heap.size wr w')) := Lib.hid
        ((alike_any n m c d A B xs ys wr.drew HN.out HM.out hc ((HRX.out.below hbd).more hbd.size) ((HRY.out.below hbd).more hbd.size)).mono fun e w' ⟨he, q, hq⟩ => ⟨he, Lib.hid (by rw [hq]; exact below_drewN hbd q)⟩)
      have HC2 : Hid (∀ (A4 : Option Addr) (c4 : Nat) (w3 : World), Below wr.heap.size wr w3 → Rd w3 w3.heap.size A4 (xs.map bv) → Calls Tryd.prog 21 #[.slice A n c, .slice A4 n c4] w3 fun e w' => e = .returned (.bool true) ∧ Hid (Below wr.heap.size wr w')) := Lib.hid (fun A4 c4 w3 hb h4 =>
        ((alike_any n n c c4 A A4 xs xs w3 HN.out HN.out hc ((HRX.out.below hb).more hb.size) h4).mono fun e w' ⟨he, q, hq⟩ => ⟨by rw [he]; simp [sameB], Lib.hid (by rw [hq]; exact below_drewN hb q)⟩))
      have HC3 : Hid (∀ (w3 : World), Below wr.heap.size wr w3 → Calls Tryd.prog 22 #[.slice A n c] w3 fun e w' => e = .returned (.string ⟨(hexS xs).toArray⟩) ∧ Hid (Below wr.heap.size wr w')) := Lib.hid (fun w3 hb =>
        ((hex_any n c A xs w3 HN.out (by omega) ((HRX.out.below hb).more hb.size)).mono fun e w' ⟨he, hv⟩ => ⟨he, Lib.hid (hb.trans (hv.out.mono hb.size))⟩))
      have HAP : Hid (∀ w2, Below wr.heap.size wr w2 → (w2.alloc (.cells #[] 5)).ownsRow wr.heap.size 5 1 (.slice (some ⟨w2.heap.size, 0, none⟩) 0 0) 0 [] ∧ Rd (w2.alloc (.cells #[] 5)) wr.heap.size A (xs.map bv) ∧ wr.heap.size ≤ (w2.alloc (.cells #[] 5)).heap.size ∧ Below wr.heap.size wr (w2.alloc (.cells #[] 5))) := Lib.hid (fun w2 hb =>
        have hb2 := hb.alloc hb.size (.cells #[] 5)
        ⟨own_empty w2 _ hb.size, HRX.out.below hb2, hb2.size, hb2⟩)
      have HGR : Hid (∀ w2 v3 w3, Below wr.heap.size wr w2 → (w3.ownsRow wr.heap.size 5 1 v3 (0 + n) ([] ++ xs.map bv) ∧ (w2.alloc (.cells #[] 5)).grownBy w3 (Value.slice (some ⟨w2.heap.size, 0, none⟩) 0 0).ownBlock) → ∃ A4 c4, v3 = .slice A4 n c4 ∧ Rd w3 w3.heap.size A4 (xs.map bv) ∧ Below wr.heap.size wr w3) := Lib.hid (fun w2 v3 w3 hb h3 => by
        have hb2 := hb.alloc hb.size (.cells #[] 5)
        have h4 := h3.1
        rw [Nat.zero_add, List.nil_append] at h4
        obtain ⟨A4, c4, rfl, _, _, _, hr4, _⟩ := own_slice h4
        exact ⟨A4, c4, rfl, hr4, hb2.grown h3.2 hb2.size (fun j hj => by have e : w2.heap.size = j := Option.some.inj hj; have := hb.size; omega)⟩)
      have hsame : sameB xs ys = (xs == ys) := by
        unfold sameB
        by_cases h : xs = ys <;> simp [h]
      have HSAM := Lib.hid hsame
      clear hsame hbd
      go_wp2_with fail
      have hsame := HSAM.out
      go_region_held3 (fun w' => (convert 25 9 (.slice A n c)).run Tryd.prog w' = .ok (.string ⟨xs.toArray⟩) w' ∧ (convert 25 9 (.slice B m d)).run Tryd.prog w' = .ok (.string ⟨ys.toArray⟩) w' ∧ (convert 25 9 (.slice A9 (2 * k) c9)).run Tryd.prog w' = .ok (.string ⟨(hexS xs).toArray⟩) w')
        (first | exact HST.out _ HBD.out | exact HST.out _ HV2.out | exact HST.out _ (HAP.out _ HV2.out).2.2.2 | exact HST.out _ HB3 | exact HST.out _ HV4.out | exact HST.out _ HV5.out)
        (first
          | (go_at_call 21; (with_reducible refine HC1.out.mono ?_); rintro e w2 ⟨rfl, HV2⟩)
          | (go_at_call 21; (with_reducible refine (HC2.out A4 c4 w3 HB3 HR4).mono ?_); rintro e w4 ⟨rfl, HV4⟩)
          | (go_at_call 22; (with_reducible refine (HC3.out w4 HV4.out).mono ?_); rintro e w5 ⟨rfl, HV5⟩)
          | (refine step_append_rd ?_ (.tmp 41) (.tmp 42) ?_ wr.heap.size (.slice (some ⟨w2.heap.size, 0, none⟩) 0 0) 0 [] ?_ ?_ wr.heap.size A n c xs ?_ ?_ ?_ ?_ ?_ ?_; exact rfl; exact rfl; exact rfl; exact (HAP.out w2 HV2.out).1; exact rfl; exact HN.out; exact (HAP.out w2 HV2.out).2.1; omega; exact (HAP.out w2 HV2.out).2.2.1; intro v3 w3 HA3; obtain ⟨A4, c4, rfl, HR4, HB3⟩ := HGR.out w2 v3 w3 HV2.out HA3.out))
      have HB6 := Lib.hid (HBR.out.trans (HV5.out.mono hszr))
      clear hsame
      go_wp2_with fail
      go_ret
      exact ⟨rfl, HB6.out⟩
end Go.Proofs.YthfpkefieemiaaaDoor
