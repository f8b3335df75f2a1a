/- The laws' alive: a frame in pieces of one byte; two bytes that are no frame's. -/
import Derived.Test.YtmhfhdbaeijcfaaDoorRce
import Derived.Test.YtmhfhdbaeijcfaaDoorGS
namespace Go.Proofs.YtmhfhdbaeijcfaaDoor
open Go.RowKit
open Go.Proofs.YtmhfhdbaeijcfaaDoor.H

theorem ack_fit : fAck.fit := ⟨Nat.zero_le _, Nat.zero_le _, by show 0 < 18446744073709551616; decide⟩
theorem ack_len : (putB fAck).length = 15 := by rw [putB_length fAck fAck_valid, fAck_total]
theorem ack_cut : Cut (putB fAck) [fAck.pl] [] false := by
  have h := Cut.put fAck_valid ack_fit (Cut.short [] (by simp))
  rw [List.append_nil] at h
  exact h
theorem Fnd.open {W : World} {z : Nat} {h : Option Nat} {v : Value} {gs : List Fr} (s : Fnd W z h v gs) : ∃ A c, v = .slice A gs.length c ∧ gs.length ≤ c ∧ c ≤ 9223372036854775807 ∧ Rd W W.heap.size A (flatF gs) := by
  have ho := s.own
  rcases ho.2 with ⟨e1, e2⟩ | ⟨q, cap, cur, e1, hb, hq, hn, hcm, _⟩
  · have hg : gs = [] := List.eq_nil_of_length_eq_zero e2
    subst hg
    exact ⟨none, 0, e1, Nat.le_refl _, by decide, .inl rfl⟩
  · refine ⟨some ⟨q, 0, none⟩, cap, e1, hn, hcm, .inr ⟨_, rfl, (ho.lt q (by rw [e1]; rfl)).2, fun j u hj => ?_⟩⟩
    exact ho.cells (g := q) (by rw [e1]; rfl) j u hj
/-- What a scanner holds behind j bytes of the frame. -/
def heldA (j : Nat) : List UInt8 := if j < 15 then (putB fAck).take j else []
def frsA (j : Nat) : List Fr := if j < 15 then [] else [fAck.pl]
theorem cut_ack (j : Nat) (hj : j < 15) (x : UInt8) (hx : (putB fAck)[j]? = some x) : Cut (heldA j ++ [x]) (frsA (j + 1)) (heldA (j + 1)) false := by
  have hl := ack_len
  have e : heldA j ++ [x] = (putB fAck).take (j + 1) := by
    unfold heldA
    rw [if_pos hj, List.take_add_one, hx]
    rfl
  rw [e]
  by_cases h : j + 1 < 15
  · have e1 : frsA (j + 1) = [] := by simp [frsA, h]
    have e2 : heldA (j + 1) = (putB fAck).take (j + 1) := by simp [heldA, h]
    rw [e1, e2]
    exact Cut.of_inc (inc_putB fAck_valid ack_fit (j + 1) (by omega))
  · have hj14 : j + 1 = 15 := by omega
    have e1 : frsA (j + 1) = [fAck.pl] := by simp [frsA, h]
    have e2 : heldA (j + 1) = [] := by simp [heldA, h]
    rw [e1, e2, hj14, List.take_of_length_le (by omega)]
    exact ack_cut
theorem held_inc (j : Nat) (_hj : j ≤ 15) : Inc (heldA j) := by
  unfold heldA
  split
  · exact inc_putB fAck_valid ack_fit j (by rw [ack_len]; omega)
  · exact .inl (by simp)
theorem cut_zz : Cut ([] ++ [0, 0]) [] [] true := Cut.size [0, 0] (by simp) (by unfold badSize; decide)

set_option maxRecDepth 100000 in
set_option maxHeartbeats 4000000 in
theorem alive6_any (E : Nat → Value) (a : Addr) (w : World) (hE : Env w E 159 (.pointer (some a))) (hE5 : F.Errs w E) : Calls Tryd.prog 28 #[] w fun e w' => e = .returned (.bool true) ∧ Hid (Below w.heap.size w w') := by
  have HE := Lib.hid hE
  have HE5 := Lib.hid hE5
  have h20 := hE.size
  clear hE hE5
  go_enter Tryd.func28, Tryd.ntmps28
  go_wp2_with fail
  with_reducible refine (new_any w).mono ?_
  rintro e w1 ⟨g, rfl, HV1⟩
  have hz1 : w.heap.size ≤ w1.heap.size := HV1.out.2.size
  have HB1 := Lib.hid HV1.out.2
  have HT1 := Lib.hid HV1.out.1
  clear HV1
  go_wp2_with fail
  have HVA : Hid (Value.agg #[.int .i64 6, .int .i64 0, .int .i64 7, .int .i64 0, .int .i64 0, .int .i64 0, .string ⟨#[]⟩, .string ⟨#[]⟩, .float .f64 0, .slice none 0 0] = fAck.v) := Lib.hid rfl
  have HPU : Hid (Calls Tryd.prog 14 #[.pointer (some ⟨g, 0, none⟩), .agg #[.int .i64 6, .int .i64 0, .int .i64 7, .int .i64 0, .int .i64 0, .int .i64 0, .string ⟨#[]⟩, .string ⟨#[]⟩, .float .f64 0, .slice none 0 0]] w1 fun e w' => ∃ x, e = .returned (.tuple #[x, .bool true]) ∧ Hid (w'.ownsRow w1.heap.size 5 1 x 15 ((putB fAck).map bv) ∧ Below w1.heap.size w1 w')) := Lib.hid (by
    have h := rput_of fAck _ g w1 rcells_ack (rform_ack rcells_ack) HVA HT1.out (fAck_ok _ _) fAck_valid
    rw [fAck_total] at h
    exact h)
  with_reducible refine HPU.out.mono ?_
  rintro e w2 ⟨x, rfl, HV2⟩
  have HB2 := Lib.hid (HB1.out.trans (HV2.out.2.mono HB1.out.size))
  have hz2 : w1.heap.size ≤ w2.heap.size := HV2.out.2.size
  obtain ⟨X, c, rfl, _, hc, hcm, hrx, hat⟩ := own_slice HV2.out.1
  obtain ⟨q, rfl, hq⟩ := hat (fun e => by have h := ack_len; rw [e] at h; simp at h)
  have HRX := Lib.hid hrx
  have hcm' : c ≤ 9223372036854775807 := hcm
  have hq2 : q < w2.heap.size := rd_lt hrx (fun e => by have h := ack_len; rw [e] at h; simp at h)
  clear HV2 hrx hcm HPU HVA HT1
  go_wp2_with fail
  with_reducible refine (snew_any w2).mono ?_
  rintro e w3 ⟨rfl, HV3⟩
  have HB23 := Lib.hid HV3.out.2.1
  have HS3 := Lib.hid HV3.out.1
  have hz3 : w3.heap.size = w2.heap.size + 1 := HV3.out.2.2
  clear HV3
  obtain ⟨gs, HGS⟩ : ∃ gs, H.Shut (w2.heap.size = gs) := ⟨_, ⟨rfl⟩⟩
  rw [HGS.out] at HS3 ⊢
  have hgs : w.heap.size ≤ gs := by rw [← HGS.out]; omega
  have h20s : 20 ≤ gs := by omega
  have hqs : q < gs := by rw [← HGS.out]; exact hq2
  have hgz : gs < w3.heap.size := by rw [hz3, HGS.out]; omega
  have HBs : Hid (Below gs w2 w3) := Lib.hid (by rw [← HGS.out]; exact HB23.out)
  have HRs : Hid (Rd w2 gs (some ⟨q, 0, none⟩) ((putB fAck).map bv)) := Lib.hid (by rw [← HGS.out]; exact HRX.out)
  clear HB23 HRX
  go_wp2_with fail
  go_loopw [4, 21] (fun nn ii W => ∃ j : Nat, j ≤ 15 ∧ ii = .int .i64 j ∧ nn = .int .i64 ((frsA j).length : Int) ∧ ∃ hh, H.Shut (Scn W gs gs hh (heldA j) false ∧ Mv gs none w3 W hh)) (fun _ ii _ => 15 - (intOf ii).toNat)
  case atStart => exact ⟨0, Nat.zero_le _, rfl, rfl, none, ⟨HS3.out, Mv.refl _ _ _⟩⟩
  case round =>
    obtain ⟨j, hj, rfl, rfl, hh, HI⟩ := hrel
    have HBr : Hid (Below gs w3 wr) := Lib.hid (HI.out.2.below (by omega) (Nat.le_refl _) (fun q e => by cases e))
    have HB2r := Lib.hid (HBs.out.trans HBr.out)
    have HWr : Hid (Below w.heap.size w wr) := Lib.hid (HB2.out.trans (HB2r.out.mono hgs))
    have HEr := Lib.hid (HE.out.below h20 HWr.out)
    have HE5r := Lib.hid (HE5.out.below h20 HWr.out)
    have hszr : w3.heap.size ≤ wr.heap.size := HI.out.2.size
    by_cases hlt : j < 15
    · have hx : j < (putB fAck).length := by rw [ack_len]; exact hlt
      obtain ⟨xb, HXB⟩ : ∃ xb, H.Shut ((putB fAck)[j]? = some xb) := ⟨_, ⟨List.getElem?_eq_getElem hx⟩⟩
      have HOF : Hid (Off wr gs hh (some ⟨q, j, none⟩) [xb]) := Lib.hid (by
        have h1 : wr.cell? ⟨q, j, none⟩ = some (bv xb) := by
          obtain ⟨ad, e1, _, e2⟩ := (HRs.out.below HB2r.out).cell (k := j) (u := bv xb) (by rw [List.getElem?_map, HXB.out]; rfl)
          injection e1 with e1
          subst e1
          have e3 : (⟨q, 0, none⟩ : Addr).add j = ⟨q, j, none⟩ := by simp [Addr.add]; omega
          rw [e3] at e2
          exact e2
        refine ⟨.inr ⟨_, rfl, by show q < wr.heap.size; omega, fun i u hi => ?_⟩, fun _ ad e => ?_⟩
        · match i with
          | 0 => simp at hi; rw [← hi]; simpa [Addr.add] using h1
          | i + 1 => simp at hi
        · injection e with e
          rw [← e]
          exact ⟨by show q ≠ gs; omega, fun e2 => by have := (HI.out.1.bh q e2.symm).1; omega⟩)
      have HFE := Lib.hid (feedx_any gs gs 1 1 hh (heldA j) [xb] (some ⟨q, j, none⟩) E 159 (.pointer (some a)) wr HEr.out HE5r.out h20s HI.out.1 (held_inc j hj) rfl (Nat.le_refl _) (by decide) (by decide) HOF.out (frsA (j + 1)) (heldA (j + 1)) false (cut_ack j hlt xb HXB.out))
      have hj15 : (j : Int) + 1 ≤ 15 := by omega
      have hj1 : j + 1 ≤ c := by omega
      have eN : errV 159 (.pointer (some a)) false = .nilIface := rfl
      rw [eN] at HFE
      go_wp2_with fail
      with_reducible refine HFE.out.mono ?_
      rintro e w4 ⟨fr, v4, h4, rfl, HV4⟩
      obtain ⟨A4, c4, rfl, hc4, hcm4, hrd4⟩ := HV4.out.1.open
      have HM4 := Lib.hid HV4.out.2.1
      have HI4 : H.Shut (Scn w4 gs gs h4 (heldA (j + 1)) false ∧ Mv gs none w3 w4 h4) := ⟨HV4.out.2.2.1, HI.out.2.trans HV4.out.2.2.2⟩
      by_cases h14 : j + 1 < 15
      · have hf0 : fr = [] := by
          have h1 := HM4.out
          have e1 : frsA (j + 1) = [] := by simp [frsA, h14]
          rw [e1] at h1
          simpa using h1
        subst hf0
        have HL1 : H.Shut ((frsA j).length = 0 ∧ (frsA (j + 1)).length = 0) := ⟨by simp [frsA, h14, hlt]⟩
        rw [HL1.out.1]
        clear HFE HV4 hrd4 HM4 HOF
        go_wp2_with fail
        exact ⟨⟨j + 1, by omega, by go_num, by rw [HL1.out.2]; rfl, h4, HI4⟩, by simp [intOf]; omega⟩
      · have hj14 : j = 14 := by omega
        subst hj14
        obtain ⟨f1, rfl, HG1⟩ : ∃ f1, fr = [f1] ∧ H.Shut (f1.got = 7) := by
          have h1 := HM4.out
          have e1 : frsA (14 + 1) = [fAck.pl] := rfl
          rw [e1] at h1
          cases fr with
          | nil => cases h1
          | cons f1 fr2 =>
            rw [List.map_cons] at h1
            injection h1 with h1 h2
            have h3 : fr2 = [] := by simpa using h2
            subst h3
            exact ⟨f1, rfl, ⟨congrArg Fr.got h1⟩⟩
        obtain ⟨q4, rfl, c24⟩ : ∃ q4, A4 = some ⟨q4, 0, none⟩ ∧ w4.cell? ⟨q4, 2, none⟩ = some (.int .i64 7) := by
          rcases HV4.out.1.own.2 with ⟨e1, e2⟩ | ⟨q4, cap, cur, e1, _⟩
          · simp at e2
          · injection e1 with e1 _ _
            refine ⟨q4, e1, ?_⟩
            obtain ⟨ad, e3, _, e4⟩ := hrd4.cell (k := 2) (u := .int .i64 f1.got) rfl
            rw [e1] at e3
            injection e3 with e3
            subst e3
            rw [HG1.out] at e4
            simpa [Addr.add] using e4
        have hc4' : 1 ≤ c4 := hc4
        have HL1 : H.Shut ((frsA 14).length = 0 ∧ (frsA (14 + 1)).length = 1) := ⟨rfl, rfl⟩
        rw [HL1.out.1]
        have el : ([f1] : List Fr).length = 1 := rfl
        rw [el]
        clear HFE HV4 hrd4 HM4 HOF
        go_wp2_with fail
        exact ⟨⟨14 + 1, by omega, by go_num, by rw [HL1.out.2]; rfl, h4, HI4⟩, by simp [intOf]⟩
    · have hj15 : j = 15 := by omega
      subst hj15
      have HS15 : Hid (Scn wr gs gs hh [] false) := Lib.hid HI.out.1
      have el : ((frsA 15).length : Int) = 1 := rfl
      have HOF : Hid (Off (wr.alloc (.cells #[.int .u8 0, .int .u8 0] 5)) gs hh (some ⟨wr.heap.size, 0, none⟩) [0, 0]) := Lib.hid ⟨(Row.new wr [.int .u8 0, .int .u8 0] 5).rd _ (by simp), fun _ ad e => by
        injection e with e
        rw [← e]
        exact ⟨by show wr.heap.size ≠ gs; omega, fun e2 => absurd (HS15.out.bh _ e2.symm).2 (Nat.lt_irrefl _)⟩⟩
      have HBA : Hid (Below wr.heap.size wr (wr.alloc (.cells #[.int .u8 0, .int .u8 0] 5))) := Lib.hid (below_alloc wr _)
      have HWA := Lib.hid (HWr.out.trans (HBA.out.mono HWr.out.size))
      have HFE := Lib.hid (feedx_any gs gs 2 2 hh [] [0, 0] (some ⟨wr.heap.size, 0, none⟩) E 159 (.pointer (some a)) (wr.alloc (.cells #[.int .u8 0, .int .u8 0] 5)) (HE.out.below h20 HWA.out) (HE5.out.below h20 HWA.out) h20s (HS15.out.below HBA.out) (.inl (by simp)) rfl (Nat.le_refl _) (by decide) (by decide) HOF.out [] [] true cut_zz)
      have eN : errV 159 (.pointer (some a)) true = .iface 159 (.pointer (some a)) := rfl
      rw [eN] at HFE
      rw [el]
      go_wp2_with fail
      with_reducible refine HFE.out.mono ?_
      rintro e w5 ⟨fr, v5, h5, rfl, HV5⟩
      have HB5 : Hid (Below w.heap.size w w5) := Lib.hid (HWA.out.trans (HV5.out.2.2.2.below HWA.out.size hgs (fun q e => by have h1 := (HS15.out.bh q e).1; omega)))
      have HS5 := Lib.hid HV5.out.2.2.1
      have ce : w5.cell? ⟨0, 0, none⟩ = some (.iface 159 (.pointer (some a))) := (HE.out.below h20 HB5.out).ef
      have hes := fun W : World => err_same a W
      clear HFE HV5 HOF HI
      go_wp2_with fail
      with_reducible refine (broken_any gs gs h5 [] true w5 HS5.out).mono ?_
      rintro e _ ⟨rfl, rfl⟩
      go_wp2_with fail
      go_ret
      exact ⟨rfl, HB5⟩
end Go.Proofs.YtmhfhdbaeijcfaaDoor
