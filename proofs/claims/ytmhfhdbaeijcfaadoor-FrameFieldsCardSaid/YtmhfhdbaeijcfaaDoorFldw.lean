/- The law FrameFields: a field that a kind doesn't look at has to be zero. All ways of its switch. -/
import Derived.Test.YtmhfhdbaeijcfaaDoorFl0
import Derived.Test.YtmhfhdbaeijcfaaDoorFl1
import Derived.Test.YtmhfhdbaeijcfaaDoorFl2
import Derived.Test.YtmhfhdbaeijcfaaDoorFl3
import Derived.Test.YtmhfhdbaeijcfaaDoorFl4
import Derived.Test.YtmhfhdbaeijcfaaDoorFl5
import Derived.Test.YtmhfhdbaeijcfaaDoorFl6
import Derived.Test.YtmhfhdbaeijcfaaDoorFl7
namespace Go.Proofs.YtmhfhdbaeijcfaaDoor
open Go.RowKit
theorem and7 (x : Int) : ∃ r : Nat, r < 8 ∧ bits .and .i64 x 7 = (r : Int) := by
  refine ⟨(BitVec.ofInt 64 x &&& BitVec.ofInt 64 7).toNat, ?_, ?_⟩
  · rw [BitVec.toNat_and]
    have h : (BitVec.ofInt 64 7).toNat = 7 := by decide
    rw [h]
    exact Nat.lt_of_le_of_lt Nat.and_le_right (by decide)
  · show IntKind.i64.wrap ((BitVec.ofInt 64 x &&& BitVec.ofInt 64 7).toNat : Int) = _
    have h7 : (BitVec.ofInt 64 x &&& BitVec.ofInt 64 7).toNat ≤ 7 := by
      rw [BitVec.toNat_and]
      have h : (BitVec.ofInt 64 7).toNat = 7 := by decide
      rw [h]
      exact Nat.and_le_right
    rw [IntKind.wrap_i64]
    omega
theorem fields_any (f : Fr) (m : Nat) (wh z : Int) (s : ByteArray) (v : Value) (E : Nat → Value) (a : Addr) (w : World) (HN : Hid (f.bs.length = m)) (HV : Hid (v = .agg (cells13 f m wh z s).toArray)) (hE : Env w E 159 (.pointer (some a))) (hf : f.ok w w.heap.size)
    (hz : i64ok z) (hs : s.size ≤ 9223372036854775807) : Calls Tryd.prog 6 #[v] w fun e w' => e = .returned (.bool true) ∧ Below w.heap.size w w' := by
  obtain ⟨r, hr, hw⟩ := and7 wh
  match r, hr with
  | 0, _ => exact fields_0 f m wh z s v E a w HN HV hE hf hw hz hs
  | 1, _ => exact fields_1 f m wh z s v E a w HN HV hE hf hw hz hs
  | 2, _ => exact fields_2 f m wh z s v E a w HN HV hE hf hw hz hs
  | 3, _ => exact fields_3 f m wh z s v E a w HN HV hE hf hw hz hs
  | 4, _ => exact fields_4 f m wh z s v E a w HN HV hE hf hw hz hs
  | 5, _ => exact fields_5 f m wh z s v E a w HN HV hE hf hw hz hs
  | 6, _ => exact fields_6 f m wh z s v E a w HN HV hE hf hw hz hs
  | 7, _ => exact fields_7 f m wh z s v E a w HN HV hE hf hw hz hs
end Go.Proofs.YtmhfhdbaeijcfaaDoor
