/- The law FrameLengths: a frame's first two bytes tell its length. -/
import Derived.Test.YtlmdafldggbiaaaDoorGet
import Derived.BigQuiet
namespace Go.Proofs.YtlmdafldggbiaaaDoor
open Go.RowKit
open Go.Proofs.YtlmdafldggbiaaaDoor.H

theorem of_mod (t : Nat) : UInt8.ofNat (t % 256) = UInt8.ofNat t := by
  apply UInt8.toNat_inj.1
  simp
theorem be_two (t : Nat) : F.be 2 t = [UInt8.ofNat (t / 256), UInt8.ofNat t] := by simp [F.be, of_mod]
theorem be_one (t : Nat) : F.be 1 t = [UInt8.ofNat t] := by simp [F.be, of_mod]
/-- The first three bytes: what the length is, two less than the bytes ahead of the check; the kind. -/
theorem putB_head (f : Fr) (h : valid f = true) : ∃ x0 x1 x2 rest, putB f = x0 :: x1 :: x2 :: rest ∧ 256 * x0.toNat + x1.toNat + 2 = total f ∧ (x2.toNat : Int) = f.kind := by
  have hT := total_le f h
  have hk := used_kind _ (valid_used h)
  refine ⟨UInt8.ofNat ((total f - 2) / 256), UInt8.ofNat (total f - 2), UInt8.ofNat f.kind.toNat, F.encB (layL f.kind) ((used f.kind).map (cellF f)) ++ (digest (cov f)).take 4, ?_, ?_, ?_⟩
  · have e : cov f = UInt8.ofNat ((total f - 2) / 256) :: UInt8.ofNat (total f - 2) :: UInt8.ofNat f.kind.toNat :: F.encB (layL f.kind) ((used f.kind).map (cellF f)) := by
      have e1 : F.fieldB (104 : UInt8).toNat { n := (total f : Int) - 2 } = F.be 2 (total f - 2) := by
        have : ((total f : Int) - 2).toNat = total f - 2 := by omega
        unfold F.fieldB
        rw [if_neg (by decide), if_neg (by decide)]
        show F.be 2 ((total f : Int) - 2).toNat = _
        rw [this]
      have e2 : F.fieldB (98 : UInt8).toNat { n := f.kind } = F.be 1 f.kind.toNat := rfl
      show F.encB (104 :: 98 :: layL f.kind) ({ n := (total f : Int) - 2 } :: { n := f.kind } :: (used f.kind).map (cellF f)) = _
      rw [F.encB, F.encB, e1, e2, be_two, be_one]
      rfl
    unfold putB
    rw [e]
    rfl
  · rw [UInt8.toNat_ofNat', UInt8.toNat_ofNat']
    omega
  · rw [UInt8.toNat_ofNat']
    omega
theorem told_head (x0 x1 : UInt8) (rest : List UInt8) : told (x0 :: x1 :: rest) = 256 * x0.toNat + x1.toNat := by
  unfold told F.num
  simp
theorem wrap_byte (x : UInt8) : wrap64 (x.toNat : Int) = (x.toNat : Int) := by have := x.toNat_lt; unfold wrap64; omega
theorem len_mul (x : UInt8) : wrap64 (256 * (x.toNat : Int)) = 256 * (x.toNat : Int) := by have := x.toNat_lt; unfold wrap64; omega
theorem len_add (x : UInt8) : wrap64 (6 + 256 * (x.toNat : Int)) = 6 + 256 * (x.toNat : Int) := by have := x.toNat_lt; unfold wrap64; omega
theorem len_sum (x y : UInt8) (T : Nat) (h : 256 * x.toNat + y.toNat + 2 = T) : wrap64 (6 + 256 * (x.toNat : Int) + (y.toNat : Int)) = (T : Int) + 4 := by have := x.toNat_lt; have := y.toNat_lt; unfold wrap64; omega
theorem told_append (P Q : List UInt8) (h : 2 ≤ P.length) : told (P ++ Q) = told P := by
  unfold told
  rw [List.take_append_of_le_length h]
theorem told_take (P : List UInt8) (k : Nat) (h : 2 ≤ k) : told (P.take k) = told P := by
  unfold told
  rw [List.take_take, Nat.min_eq_left h]
theorem putB_told (f : Fr) (h : valid f = true) : told (putB f) = total f - 2 := by
  obtain ⟨x0, x1, x2, rest, e, h1, _⟩ := putB_head f h
  rw [e, told_head]
  omega
theorem own_empty (w : World) (base : Nat) (h : base ≤ w.heap.size) : (w.alloc (.cells #[] 5)).ownsRow base 5 1 (.slice (some ⟨w.heap.size, 0, none⟩) 0 0) 0 [] :=
  ⟨rfl, .inr ⟨w.heap.size, 0, #[], rfl, h, heap_alloc_last w _, Nat.le_refl _, by decide, rfl, rfl⟩⟩

set_option maxRecDepth 100000 in
set_option maxHeartbeats 4000000 in
theorem lens_any (f : Fr) (v : Value) (E : Nat → Value) (a : Addr) (n c : Nat) (A : Option Addr) (bs : List UInt8) (w : World) (hv : Hid (v = f.v)) (hE : Env w E 138 (.pointer (some a))) (hE5 : F.Errs w E) (hf : f.ok w w.heap.size)
    (hn : bs.length = n) (hc : n ≤ c) (hcm : c ≤ 9223372036854775807) (hr : Rd w w.heap.size A (bs.map bv)) :
    Calls Tryd.prog 7 #[v, .slice A n c] w fun e w' => e = .returned (.bool true) ∧ Below w.heap.size w w' := by
  have HF := Lib.hid hf
  have HE := Lib.hid hE
  have HE5 := Lib.hid hE5
  have h20 := hE.size
  have HNB := Lib.hid hn
  have HR := Lib.hid hr
  have hes := fun W : World => err_same a W
  clear hf hE hE5 hn hr
  obtain ⟨m, HN⟩ : ∃ m, Hid (f.bs.length = m) := ⟨_, rfl⟩
  have HV : Hid (v = .agg (f.cells m).toArray) := Lib.hid (by rw [hv.out, ← HN.out]; rfl)
  clear hv
  have HLZ : Hid ((Tryd.prog.info? 25).map (·.size) = some zeroC.length) := Lib.hid size25
  go_enter Tryd.func7, Tryd.ntmps7
  go_wp2_with (first
    | (refine wl_box rfl 25 (.tmp 0) rfl (f.cells m) HV.out ?_
       intro w1 HA1 HB1 HZ1
       have hz1 : w.heap.size < w1.heap.size := by rw [HZ1.out]; omega))
  have HE1 := Lib.hid (HE.out.below h20 HB1.out)
  with_reducible refine (alive_any E a w1 HE1.out).mono ?_
  rintro e w2 ⟨rfl, HV2⟩
  have HB2 := Lib.hid (HB1.out.trans (HV2.out.mono (Nat.le_of_lt hz1)))
  have HA2 := Lib.hid (HA1.out.below HV2.out hz1)
  have hz2 : w1.heap.size ≤ w2.heap.size := HV2.out.size
  clear HV2 HA1 HB1 HZ1 HE1
  go_wp2_with (first
    | (refine wl_load rfl 25 (.tmp 2) rfl w.heap.size rfl 25 _ _ HA2.out under25.choose_spec rfl size25 ?_
       intro vp HVP))
  have HVP2 : Hid (vp = f.v) := Lib.hid (by rw [HVP.out]; unfold Fr.v; rw [HN.out])
  have HFO := Lib.hid ((HF.out.below HB2.out).more HB2.out.size)
  have HE2 := Lib.hid (HE.out.below h20 HB2.out)
  cases hval : valid f with
  | false =>
    with_reducible refine (put_bad f vp E 138 (.pointer (some a)) w2 HVP2 HE2.out HFO.out hval).mono ?_
    rintro e w3 ⟨rfl, HV3⟩
    have HB3 := Lib.hid (HB2.out.trans (HV3.out.mono HB2.out.size))
    have ce : w3.cell? ⟨0, 0, none⟩ = some (.iface 138 (.pointer (some a))) := (HE.out.below h20 HB3.out).ef
    go_wp2_with fail
    go_ret
    exact ⟨rfl, HB3.out⟩
  | true =>
    with_reducible refine (put_ok f vp E 138 (.pointer (some a)) w2 HVP2 HE2.out HFO.out hval).mono ?_
    rintro e w3 ⟨x, rfl, HV3⟩
    have HB3 := Lib.hid (HB2.out.trans (HV3.out.2.mono HB2.out.size))
    have HA3 := Lib.hid (HA2.out.below HV3.out.2 (by omega))
    have hz3 : w2.heap.size ≤ w3.heap.size := HV3.out.2.size
    have hT := total_le f hval
    obtain ⟨x0, x1, x2, rest, hpb, h01, h2k⟩ := putB_head f hval
    have HLP := Lib.hid (putB_length f hval)
    have HPT := Lib.hid (putB_told f hval)
    obtain ⟨T, HTT⟩ : ∃ T, H.Shut (total f = T) := ⟨_, ⟨rfl⟩⟩
    rw [HTT.out] at hT h01 HV3 HLP HPT
    obtain ⟨P, HP⟩ : ∃ P, H.Shut (putB f = P) := ⟨_, ⟨rfl⟩⟩
    rw [HP.out] at hpb HV3 HLP HPT
    have HO3 := Lib.hid HV3.out.1
    obtain ⟨X, cx, rfl, _, hcx, hcxm, hrx, hX⟩ := own_slice HO3.out
    obtain ⟨gx, rfl, hgx⟩ := hX (by rw [hpb]; simp)
    have hcxm' : cx ≤ 9223372036854775807 := hcxm
    have HRX := Lib.hid hrx
    have k0 : w3.cell? ⟨gx, 0, none⟩ = some (.int .u8 (x0.toNat : Int)) := by
      obtain ⟨ad, he, _, hcc⟩ := hrx.cell (k := 0) (u := bv x0) (by rw [hpb]; rfl)
      injection he with he
      subst he
      simpa [Addr.add, bv] using hcc
    have k1 : w3.cell? ⟨gx, 1, none⟩ = some (.int .u8 (x1.toNat : Int)) := by
      obtain ⟨ad, he, _, hcc⟩ := hrx.cell (k := 1) (u := bv x1) (by rw [hpb]; rfl)
      injection he with he
      subst he
      simpa [Addr.add, bv] using hcc
    have k2 : w3.cell? ⟨gx, 2, none⟩ = some (.int .u8 (x2.toNat : Int)) := by
      obtain ⟨ad, he, _, hcc⟩ := hrx.cell (k := 2) (u := bv x2) (by rw [hpb]; rfl)
      injection he with he
      subst he
      simpa [Addr.add, bv] using hcc
    have kk : w3.cell? ⟨w.heap.size, 0, none⟩ = some (.int .i64 f.kind) := HA3.out.cell 0
    have l0 := x0.toNat_lt
    have l1 := x1.toNat_lt
    have l2 := x2.toNat_lt
    have hw0 := wrap_byte x0
    have hw1 := wrap_byte x1
    have hw2 := wrap_byte x2
    have HB23 := Lib.hid HV3.out.2
    have hwl : w.heap.size < w3.heap.size := HA3.out.lt
    clear hrx hcxm hX HVP HVP2 HFO HE2 hval hpb HV3 HA2 HB2 HA3
    have HZS := Lib.hid (And.intro hz1 (And.intro hz2 (And.intro hz3 (And.intro hwl (And.intro hgx (And.intro hc (And.intro hcm (And.intro hcx (And.intro hcxm' h20)))))))))
    have q1 := len_mul x0
    have q2 := len_add x0
    have q3 := len_sum x0 x1 T h01
    clear hz1 hz2 hz3 hwl hgx hc hcm hcx hcxm' h20 l0 l1 l2 h01
    rw [h2k] at hw2 k2
    generalize (x0.toNat : Int) = y0 at *
    generalize (x1.toNat : Int) = y1 at *
    have hT3 : 3 ≤ T := hT.1
    have hT4 : T ≤ 4629 := hT.2
    clear hT
    have HES := Lib.hid hes
    clear hes h2k
    go_wp2_with fail
    go_region
    all_goals
      have HB4 := Lib.hid HB3.out.drew
      have HO4 := Lib.hid HO3.out.drew
      have HR4 : Hid (Rd w3.drew w3.drew.heap.size (some ⟨gx, 0, none⟩) (P.map bv)) := Lib.hid HRX.out
      generalize w3.drew = w4 at *
      clear k0 k1 k2 kk HB3 HO3 HRX hw0 hw1 hw2 q1 q2 q3 HB23
      obtain ⟨hz1, hz2, hz3, hwl, hgx, hc, hcm, hcx, hcxm', h20⟩ := HZS.out
      have hsz4 : w.heap.size ≤ w4.heap.size := HB4.out.size
      clear hz1 hz2 hz3 hwl hgx
      by_cases hn0 : n = 0
      · subst hn0
        go_wp2_with fail
        go_ret
        exact ⟨rfl, HB4.out⟩
      have hn0I : ((n : Int) == 0) = false := by simp; omega
      by_cases hbig : 2000 < n
      · go_wp2_with fail
        go_ret
        exact ⟨rfl, HB4.out⟩
      have HRA : Hid (Rd (w4.alloc (.cells #[] 5)) w4.heap.size (some ⟨gx, 0, none⟩) (P.map bv)) := Lib.hid (HR4.out.below (below_alloc w4 _))
      have HBA := Lib.hid (below_alloc w4 (.cells #[] 5))
      go_wp2_with (first
        | (refine wl_append rfl (.tmp 60) (.tmp 61) rfl w4.heap.size (.slice (some ⟨w4.heap.size, 0, none⟩) 0 0) 0 [] rfl (own_empty w4 w4.heap.size (Nat.le_refl _)) w4.heap.size (some ⟨gx, 0, none⟩) (T + 4) cx P rfl HLP.out HRA.out (by omega) HBA.out.size ?_
           intro v5 w5 HA5
           have HB5 := Lib.hid (HBA.out.grown HA5.out.2 HBA.out.size (fun j hj => by have e : w4.heap.size = j := Option.some.inj hj; omega))
           have HRB : Hid (Rd w5 w.heap.size A (bs.map bv)) := Lib.hid ((HR.out.below HB4.out).below (HB5.out.mono hsz4)))
        | (refine wl_append rfl (.tmp 62) (.tmp 63) rfl w4.heap.size v5 (0 + (T + 4)) ([] ++ P.map bv) rfl HA5.out.1 w.heap.size A n c bs rfl HNB.out HRB.out (by omega) HB5.out.size ?_
           intro v6 w6 HA6
           have HB6 := Lib.hid (HB5.out.grown HA6.out.2 HB5.out.size (fun j hj => (HA5.out.1.lt j hj).1))
           have HO6 : Hid (w6.ownsRow w4.heap.size 5 1 v6 (0 + (T + 4) + n) ((P ++ bs).map bv)) := Lib.hid (by have h := HA6.out.1; rw [List.nil_append, ← List.map_append] at h; exact h)))
      obtain ⟨A6, c6, rfl, hl6, hc6, hcm6, hr6, _⟩ := own_slice HO6.out
      have HR6 := Lib.hid hr6
      have HL6 := Lib.hid hl6
      have hcm6' : c6 ≤ 9223372036854775807 := hcm6
      have HBW6 := Lib.hid (HB4.out.trans (HB6.out.mono hsz4))
      have HE6 := Lib.hid (HE.out.below h20 HBW6.out)
      have HE56 := Lib.hid (HE5.out.below h20 HBW6.out)
      have HX6 := Lib.hid ((HR4.out.below HB6.out).more HB6.out.size)
      have HNE6 : Hid ((told (P ++ bs) : Int) ≠ ((0 + (T + 4) + n : Nat) : Int) - 6) := Lib.hid (by rw [told_append P bs (by rw [HLP.out]; omega), HPT.out]; omega)
      clear hr6 hl6 hcm6 HA5 HA6 HO6 HRA HBA HB5 HRB HO4
      with_reducible refine (get_len (0 + (T + 4) + n) c6 A6 (P ++ bs) E 138 (.pointer (some a)) w6 HE6.out HE56.out HL6.out hc6 hcm6' HR6.out HNE6.out).mono ?_
      rintro e w7 ⟨rfl, HV7⟩
      have hz67 : w6.heap.size ≤ w7.heap.size := HV7.out.size
      go_wp2_with (first
        | (refine wl_alloc (o := ⟨some 7, _, _, _, _, _⟩) rfl 25 rfl _ _ info25' ?_
           intro w8 HA8 HB8 HZ8)
        | (refine wl_store rfl 25 (.tmp 7) (.tmp 66) rfl w7.heap.size _ zeroC rfl rfl rfl 25 _ HA8.out HLZ.out rfl zeroC_one ?_
           intro w9 HR9 HS9 HZ9))
      have hz8 : w7.heap.size < w8.heap.size := by rw [HZ8.out]; omega
      have hb79 : Below w7.heap.size w7 w9 := HB8.out.trans (HS9.out.below (Nat.le_refl _) (by omega))
      have hb69 : Below w6.heap.size w6 w9 := HV7.out.trans (hb79.mono hz67)
      have HBW9 := Lib.hid (HBW6.out.trans (hb69.mono HBW6.out.size))
      have HE9 := Lib.hid (HE.out.below h20 HBW9.out)
      have HE59 := Lib.hid (HE5.out.below h20 HBW9.out)
      have HX9 : Hid (Rd w9 w9.heap.size (some ⟨gx, 0, none⟩) ((P.take (T + 3)).map bv)) := Lib.hid (by rw [List.map_take]; exact ((HX6.out.below hb69).more hb69.size).take (T + 3))
      have HL9 : Hid ((P.take (T + 3)).length = T + 3) := Lib.hid (by rw [List.length_take, HLP.out]; omega)
      have HNE9 : Hid ((told (P.take (T + 3)) : Int) ≠ ((T + 3 : Nat) : Int) - 6) := Lib.hid (by rw [told_take P (T + 3) (by omega), HPT.out]; omega)
      have hcx9 : T + 3 ≤ cx := by omega
      clear HA8 HB8 HZ8 HR9 HS9 HZ9 hb79 hb69 HV7 HX6 HR6 HL6 HNE6 HE6 HE56 HB6 HBW6
      with_reducible refine (get_len (T + 3) cx (some ⟨gx, 0, none⟩) (P.take (T + 3)) E 138 (.pointer (some a)) w9 HE9.out HE59.out HL9.out hcx9 hcxm' HX9.out HNE9.out).mono ?_
      rintro e wa ⟨rfl, HVa⟩
      have hz9a : w9.heap.size ≤ wa.heap.size := HVa.out.size
      go_wp2_with (first
        | (refine wl_alloc (o := ⟨some 9, _, _, _, _, _⟩) rfl 25 rfl _ _ info25' ?_
           intro wb HAb HBb HZb)
        | (refine wl_store rfl 25 (.tmp 9) (.tmp 75) rfl wa.heap.size _ zeroC rfl rfl rfl 25 _ HAb.out HLZ.out rfl zeroC_one ?_
           intro wc HRc HSc HZc
           have hzb : wa.heap.size < wb.heap.size := by rw [HZb.out]; omega
           have hbac : Below wa.heap.size wa wc := HBb.out.trans (HSc.out.below (Nat.le_refl _) (by omega))
           have HBWc := Lib.hid (HBW9.out.trans ((HVa.out.trans (hbac.mono hz9a)).mono HBW9.out.size))
           have ce : wc.cell? ⟨0, 0, none⟩ = some (.iface 138 (.pointer (some a))) := (HE.out.below h20 HBWc.out).ef
           have hes := HES.out))
      go_ret
      exact ⟨rfl, HBWc.out⟩
end Go.Proofs.YtlmdafldggbiaaaDoor
