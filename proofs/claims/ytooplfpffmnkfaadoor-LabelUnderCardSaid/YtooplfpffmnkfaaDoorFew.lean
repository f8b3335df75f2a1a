/- covers, better, isVoid. -/
import Derived.Test.YtooplfpffmnkfaaDoorMem
namespace Go.Proofs.YtooplfpffmnkfaaDoor
open Go.RowKit

theorem list_eq (s : ByteArray) : s.toList = s.data.toList := ByteArray.toList_eq s
theorem covers_any (p n : ByteArray) (w : World) (_hp : p.size ≤ 9223372036854775807) (hn : n.size ≤ 9223372036854775807) : Calls Tryd.prog 25 #[.string p, .string n] w fun e w' => e = .returned (.bool (covB p.data.toList n.data.toList)) ∧ w = w' := by
  have HC := Lib.hid (Tryd.strings_CutPrefix p ⟨#[42]⟩ w)
  have HS := Lib.hid (Tryd.strings_HasSuffix n ⟨(Go.Lib.trimPrefix p.data.toList [42]).toArray⟩ w hn)
  cases hb : Go.Lib.hasPrefix p.data.toList [42] with
  | true =>
    have HB : Hid (covB p.data.toList n.data.toList = Go.Lib.hasSuffix n.data.toList (Go.Lib.trimPrefix p.data.toList [42])) := Lib.hid (by simp [covB, hb])
    have e1 : (⟨#[42]⟩ : ByteArray).data.toList = [42] := rfl
    rw [e1, hb] at HC
    clear hb e1
    go_enter Tryd.func25, Tryd.ntmps25
    go_wp2_with fail
    with_reducible refine HC.out.mono ?_
    rintro e _ ⟨rfl, rfl⟩
    go_wp2_with fail
    with_reducible refine HS.out.mono ?_
    rintro e _ ⟨rfl, rfl⟩
    go_wp2_with fail
    go_ret
    exact ⟨by rw [HB.out]; simp, rfl⟩
  | false =>
    have HB : Hid (covB p.data.toList n.data.toList = (p.data.toList == n.data.toList)) := Lib.hid (by simp [covB, hb])
    have e1 : (⟨#[42]⟩ : ByteArray).data.toList = [42] := rfl
    rw [e1, hb] at HC
    clear hb e1
    go_enter Tryd.func25, Tryd.ntmps25
    go_wp2_with fail
    with_reducible refine HC.out.mono ?_
    rintro e _ ⟨rfl, rfl⟩
    go_wp2_with fail
    go_ret
    exact ⟨by rw [HB.out]; simp [list_eq], rfl⟩
/-- Is the first of two patterns that fit the better one? -/
def betterB (one other name : List UInt8) : Bool := (other != name) && (one == name || decide (other.length < one.length))
theorem better_any (p q n : ByteArray) (w : World) : Calls Tryd.prog 26 #[.string p, .string q, .string n] w fun e w' => e = .returned (.bool (betterB p.data.toList q.data.toList n.data.toList)) ∧ w = w' := by
  have hp := size_bytes p
  have hq := size_bytes q
  by_cases h1 : q.data.toList = n.data.toList
  · have HB : Hid (betterB p.data.toList q.data.toList n.data.toList = false) := Lib.hid (by simp [betterB, h1])
    have t1 : (q.toList == n.toList) = true := by simp [list_eq, h1]
    clear h1 hp hq
    go_enter Tryd.func26, Tryd.ntmps26
    go_wp2
    go_ret
    exact ⟨by rw [HB.out]; rfl, rfl⟩
  · have t1 : (q.toList == n.toList) = false := by rw [list_eq, list_eq]; exact beq_eq_false_iff_ne.2 h1
    by_cases h2 : p.data.toList = n.data.toList
    · have HB : Hid (betterB p.data.toList q.data.toList n.data.toList = true) := Lib.hid (by rw [betterB, h2]; simp [h1])
      have t2 : (p.toList == n.toList) = true := by simp [list_eq, h2]
      clear h1 h2 hp hq
      go_enter Tryd.func26, Tryd.ntmps26
      go_wp2
      go_ret
      exact ⟨by rw [HB.out]; rfl, rfl⟩
    · have t2 : (p.toList == n.toList) = false := by rw [list_eq, list_eq]; exact beq_eq_false_iff_ne.2 h2
      have HB : Hid (betterB p.data.toList q.data.toList n.data.toList = decide (q.size < p.size)) := Lib.hid (by
        have e1 : (q.data.toList != n.data.toList) = true := bne_iff_ne.2 h1
        have e2 : (p.data.toList == n.data.toList) = false := beq_eq_false_iff_ne.2 h2
        rw [betterB, e1, e2, hp, hq]; rfl)
      clear h1 h2 hp hq
      by_cases h3 : q.size < p.size
      · go_enter Tryd.func26, Tryd.ntmps26
        go_wp2
        go_ret
        exact ⟨by rw [HB.out]; simp [h3], rfl⟩
      · go_enter Tryd.func26, Tryd.ntmps26
        go_wp2
        go_ret
        exact ⟨by rw [HB.out]; simp [h3], rfl⟩
theorem void_any (p : ByteArray) (w : World) : Calls Tryd.prog 27 #[.string p] w fun e w' => e = .returned (.bool (voidB p.data.toList)) ∧ w = w' := by
  have HC := Lib.hid (Tryd.strings_Count_one p 46 w)
  have HB : Hid (voidB p.data.toList = ((Go.Lib.countByte p.data.toList 46 : Int) == 8)) := Lib.hid (by
    rw [voidB, Go.Lib.countByte, Bool.eq_iff_iff, beq_iff_eq, beq_iff_eq]; omega)
  go_enter Tryd.func27, Tryd.ntmps27
  go_wp2_with fail
  with_reducible refine HC.out.mono ?_
  rintro e _ ⟨rfl, rfl⟩
  go_wp2_with fail
  go_ret
  exact ⟨by rw [HB.out]; rfl, rfl⟩
end Go.Proofs.YtooplfpffmnkfaaDoor
