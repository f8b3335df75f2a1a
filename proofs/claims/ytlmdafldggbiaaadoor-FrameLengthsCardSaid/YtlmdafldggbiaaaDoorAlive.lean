/- The laws' alive: the chapter's examples. -/
import Derived.Test.YtlmdafldggbiaaaDoorPutw
import Derived.Test.YtlmdafldggbiaaaDoorLaid
namespace Go.Proofs.YtlmdafldggbiaaaDoor
open Go.RowKit
open Go.Proofs.YtlmdafldggbiaaaDoor.H

/-- FAck with Got 7; FData without Bytes. -/
def fAck : Fr := ⟨6, 0, 7, 0, 0, 0, ⟨#[]⟩, ⟨#[]⟩, 0, none, 0, []⟩
def fData : Fr := ⟨9, 1, 0, 1, 0, 0, ⟨#[]⟩, ⟨#[]⟩, 0, none, 0, []⟩
theorem fAck_ok (w : World) (B : Nat) : fAck.ok w B := ⟨⟨by decide, by decide⟩, ⟨by decide, by decide⟩, ⟨by decide, by decide⟩, ⟨by decide, by decide⟩, ⟨by decide, by decide⟩, ⟨by decide, by decide⟩, Nat.zero_le _, Nat.zero_le _, by decide, Nat.zero_le _, by decide, .inl rfl⟩
theorem fData_ok (w : World) (B : Nat) : fData.ok w B := ⟨⟨by decide, by decide⟩, ⟨by decide, by decide⟩, ⟨by decide, by decide⟩, ⟨by decide, by decide⟩, ⟨by decide, by decide⟩, ⟨by decide, by decide⟩, Nat.zero_le _, Nat.zero_le _, by decide, Nat.zero_le _, by decide, .inl rfl⟩
theorem fAck_valid : valid fAck = true := by kernel_rfl
theorem fData_valid : valid fData = false := by kernel_rfl
theorem fAck_total : total fAck = 11 := by kernel_rfl
theorem fAck_cov : cov fAck = [0, 9, 6, 0, 0, 0, 0, 0, 0, 0, 7] := by kernel_rfl

set_option maxRecDepth 100000 in
set_option maxHeartbeats 2000000 in
theorem alive_any (E : Nat → Value) (a : Addr) (w : World) (hE : Env w E 138 (.pointer (some a))) : Calls Tryd.prog 9 #[] w fun e w' => e = .returned (.bool true) ∧ Hid (Below w.heap.size w w') := by
  have HE := Lib.hid hE
  have h20 := hE.size
  have hes := fun W : World => err_same a W
  clear hE
  go_enter Tryd.func9, Tryd.ntmps9
  go_wp2_with fail
  with_reducible refine (put_ok fAck (.agg #[.int .i64 6, .int .i64 0, .int .i64 7, .int .i64 0, .int .i64 0, .int .i64 0, .string ⟨#[]⟩, .string ⟨#[]⟩, .float .f64 0, .slice none 0 0]) E 138 (.pointer (some a)) w (Lib.hid rfl) HE.out (fAck_ok _ _) fAck_valid).mono ?_
  rintro e w1 ⟨x, rfl, HV1⟩
  have HO1 : Hid (w1.ownsRow w.heap.size 5 1 x 15 ((putB fAck).map bv)) := Lib.hid (by have h := HV1.out.1; rw [fAck_total] at h; exact h)
  have HB1 := Lib.hid HV1.out.2
  have hz1 : w.heap.size ≤ w1.heap.size := HB1.out.size
  have HE1 := Lib.hid (HE.out.below h20 HB1.out)
  clear HV1
  obtain ⟨X, c, rfl, _, hc, hcm, hrx, _⟩ := own_slice HO1.out
  have HRX := Lib.hid hrx
  have hcm' : c ≤ 9223372036854775807 := hcm
  clear hrx hcm
  go_wp2_with fail
  with_reducible refine (put_bad fData (.agg #[.int .i64 9, .int .i64 1, .int .i64 0, .int .i64 1, .int .i64 0, .int .i64 0, .string ⟨#[]⟩, .string ⟨#[]⟩, .float .f64 0, .slice none 0 0]) E 138 (.pointer (some a)) w1 (Lib.hid rfl) HE1.out (fData_ok _ _) fData_valid).mono ?_
  rintro e w2 ⟨rfl, HV2⟩
  have HB2 := Lib.hid (HB1.out.trans (HV2.out.mono hz1))
  have hz2 : w1.heap.size ≤ w2.heap.size := HV2.out.size
  have ce : w2.cell? ⟨0, 0, none⟩ = some (.iface 138 (.pointer (some a))) := (HE1.out.below HE1.out.size HV2.out).ef
  have hst : (convert 23 9 (.slice X 11 c)).run Tryd.prog w2 = .ok (.string ⟨#[0, 9, 6, 0, 0, 0, 0, 0, 0, 0, 7]⟩) w2 := by
    have h1 := (HRX.out.below HV2.out).take 11
    rw [← List.map_take] at h1
    have h2 : (putB fAck).take 11 = [0, 9, 6, 0, 0, 0, 0, 0, 0, 0, 7] := by
      unfold putB
      rw [fAck_cov]
      rfl
    rw [h2] at h1
    exact Rd.toStr h1 11 c rfl
  clear HV2
  go_wp2_with fail
  go_ret
  exact ⟨rfl, HB2⟩
end Go.Proofs.YtlmdafldggbiaaaDoor
