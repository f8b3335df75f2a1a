/- What frame.Layout answers. -/
import Derived.Test.YtlmdafldggbiaaaDoorChk
namespace Go.Proofs.YtlmdafldggbiaaaDoor
open Go.RowKit
open Go.Proofs.YtlmdafldggbiaaaDoor.H

def letter (x : Nat) : UInt8 := if x = 0 then 113 else if x = 1 then 113 else if x = 2 then 119 else if x = 3 then 119 else if x = 4 then 98 else if x = 5 then 116 else if x = 6 then 116 else if x = 7 then 102 else 114
theorem letter_cut (x : Nat) (hx : x < 9) : ((ByteArray.mk #[113, 113, 119, 119, 98, 116, 116, 102, 114]).extract x (x + 1)) = ByteArray.mk #[letter x] := by
  rcases ext_nine x hx with rfl | rfl | rfl | rfl | rfl | rfl | rfl | rfl | rfl <;> rfl
theorem bytes_cat (M K : List UInt8) : ByteArray.mk M.toArray ++ ByteArray.mk K.toArray = ByteArray.mk (M ++ K).toArray := by
  apply ByteArray.ext
  simp [ByteArray.data_append]
theorem letter_cat (M : List UInt8) (x : Nat) (hx : x < 9) : ByteArray.mk M.toArray ++ ((ByteArray.mk #[113, 113, 119, 119, 98, 116, 116, 102, 114]).extract x (x + 1)) = ByteArray.mk (M ++ [letter x]).toArray := by
  rw [letter_cut x hx]
  exact bytes_cat M [letter x]
/-- A kind's layout. -/
def layL (k : Int) : List UInt8 := (used k).map letter

set_option maxRecDepth 100000 in
set_option maxHeartbeats 1000000 in
theorem layout_any (k : Int) (w : World) : Calls Tryd.prog 17 #[.int .i64 k] w fun e w' => e = .returned (.string ⟨(layL k).toArray⟩) ∧ Hid (Below w.heap.size w w') := by
  go_enter Tryd.func17, Tryd.ntmps17
  go_wp2_with fail
  with_reducible refine (fieldsOf_any k w).mono ?_
  rintro e w2 ⟨A, rfl, HV2⟩
  obtain ⟨L, HL⟩ : ∃ L, H.Shut (used k = L) := ⟨_, ⟨rfl⟩⟩
  obtain ⟨m, HM⟩ : ∃ m, Hid (L.length = m) := ⟨_, rfl⟩
  have hm9 : m ≤ 9 := by
    have h := used_len k
    rw [HL.out, HM.out] at h
    exact h
  rw [HL.out, HM.out]
  have HRD : Hid (Rd w2 w2.heap.size A (L.map nv)) := Lib.hid (by rw [← HL.out]; exact HV2.out.1)
  have HLX : H.Shut (∀ x ∈ L, x < 9) := ⟨by rw [← HL.out]; exact used_lt k⟩
  go_wp2_with fail
  go_loop [3, 9] (fun v i => ∃ j : Nat, j ≤ m ∧ i = .int .i64 j ∧ H.Shut (v = .string ⟨((L.take j).map letter).toArray⟩)) (fun _ i => m - (intOf i).toNat)
  case atStart => exact ⟨0, Nat.zero_le _, rfl, ⟨by simp⟩⟩
  case round =>
    obtain ⟨j, hj, rfl, HI⟩ := hrel
    obtain ⟨t, HT⟩ : ∃ t, H.Shut (t = ByteArray.mk ((L.take j).map letter).toArray) := ⟨_, ⟨rfl⟩⟩
    have hv3 : u3 = .string t := by rw [HT.out]; exact HI.out
    subst hv3
    by_cases hlt : j < m
    · have hj2 : j < L.length := by rw [HM.out]; exact hlt
      obtain ⟨ad, rfl, _, hcx⟩ := HRD.out.cell (k := j) (u := nv L[j]) (by simp [hj2])
      have hx9 : L[j] < 9 := HLX.out _ (List.getElem_mem hj2)
      have htk : L.take (j + 1) = L.take j ++ [L[j]] := List.take_succ_eq_append_getElem hj2
      generalize L[j] = x at *
      unfold nv at hcx
      have hw1 : IntKind.i64.wrap ((x : Int) + 1) = (x : Int) + 1 := by rw [IntKind.wrap_i64]; omega
      have hts : t.size ≤ 9 := by
        rw [HT.out]
        show ((L.take j).map letter).toArray.size ≤ 9
        simp
        omega
      have hnl : ¬ 9223372036854775807 < t.size + (min (x + 1) 9 - x) := by omega
      have HTX : H.Shut (Value.string (t ++ (ByteArray.mk #[113, 113, 119, 119, 98, 116, 116, 102, 114]).extract x (x + 1)) = .string ⟨((L.take (j + 1)).map letter).toArray⟩) := ⟨by rw [htk, HT.out, letter_cat _ x hx9, List.map_append]; rfl⟩
      clear htk hts
      go_wp2_with fail
      exact ⟨⟨j + 1, by omega, by go_num, HTX⟩, by simp [intOf]; omega⟩
    · have HTF : Hid (t = ⟨(layL k).toArray⟩) := Lib.hid (by rw [HT.out, List.take_of_length_le (by rw [HM.out]; omega), ← HL.out]; rfl)
      have HB2 := Lib.hid HV2.out.2.1
      clear HV2
      go_wp2_with fail
      go_ret
      exact ⟨by rw [← HTF.out]; rfl, HB2⟩
end Go.Proofs.YtlmdafldggbiaaaDoor
