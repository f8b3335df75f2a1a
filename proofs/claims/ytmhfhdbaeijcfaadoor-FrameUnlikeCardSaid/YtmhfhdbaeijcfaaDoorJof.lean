/- A stream of frames in which the last byte of frame k's check is turned: the frames ahead of it come out, then the scanner is broken. -/
import Derived.Test.YtmhfhdbaeijcfaaDoorJon
namespace Go.Proofs.YtmhfhdbaeijcfaaDoor
open Go.RowKit
open Go.Proofs.YtmhfhdbaeijcfaaDoor.H
/-- A frame's bytes with another last byte are no frame's. -/
theorem getB_turned {f : Fr} (h : valid f = true) (hf : f.fit) (y : UInt8) (hy : (putB f)[(putB f).length - 1]? ≠ some y) : getB ((putB f).set ((putB f).length - 1) y) = none := by
  have h7 := putB_len7 h hf
  have hl := putB_length f h
  have hc := cov_length f h
  have e : ((putB f).set ((putB f).length - 1) y).take ((putB f).length - 4) = cov f := by
    rw [List.take_set_of_le (by omega)]
    unfold putB
    rw [List.take_append_of_le_length (by rw [List.length_append, List.length_take, digest_length]; omega), List.take_of_length_le (by rw [List.length_append, List.length_take, digest_length]; omega)]
  unfold getB
  rw [List.length_set, e]
  split
  · rename_i hs
    exfalso
    apply hy
    have e2 : putB f = (putB f).set ((putB f).length - 1) y := hs.2.2
    have e3 : ((putB f).set ((putB f).length - 1) y)[(putB f).length - 1]? = some y := List.getElem?_set_self (by omega)
    rw [← e2] at e3
    exact e3
  · rfl
theorem bytesOf_pos {gs : List Fr} (h : Good gs) (k : Nat) (hk : k < gs.length) : 7 ≤ bytesOf (gs.take (k + 1)) := by
  cases gs with
  | nil => simp at hk
  | cons f fs =>
    rw [List.take_succ_cons, bytesOf_cons]
    have := putB_len7 h.head.1 h.head.2
    omega
theorem told_set (s : List UInt8) (j : Nat) (y : UInt8) (h : 2 ≤ j) : told (s.set j y) = told s := by
  unfold told
  rw [List.take_set_of_le h]
theorem cut_turned : ∀ (gs : List Fr) (k : Nat) (y : UInt8), Good gs → k < gs.length → (joinB gs)[bytesOf (gs.take (k + 1)) - 1]? ≠ some y → Cut ((joinB gs).set (bytesOf (gs.take (k + 1)) - 1) y) ((gs.take k).map Fr.pl) [] true
  | [], k, y, _, hk, _ => by simp at hk
  | f :: fs, 0, y, h, hk, hy => by
    have h7 := putB_len7 h.head.1 h.head.2
    have hz := sizeH_putB h.head.1
    have e0 : bytesOf ((f :: fs).take (0 + 1)) = (putB f).length := by rw [List.take_succ_cons, bytesOf_cons]; simp [bytesOf]
    rw [e0, joinB_cons] at hy ⊢
    rw [List.getElem?_append_left (by omega)] at hy
    rw [List.set_append_left _ _ (by omega)]
    have hl : ((putB f).set ((putB f).length - 1) y).length = (putB f).length := List.length_set
    have hsz : sizeH ((putB f).set ((putB f).length - 1) y ++ joinB fs) = (putB f).length := by
      have e1 : sizeH ((putB f).set ((putB f).length - 1) y) = sizeH (putB f) := by
        unfold sizeH
        rw [told_set _ _ _ (by omega)]
      rw [sizeH_append _ _ (by omega), e1, hz]
    simp only [List.take_zero, List.map_nil]
    refine .wrong _ (by rw [List.length_append]; omega) (by unfold badSize; rw [hsz]; omega) (by rw [hsz, List.length_append]; omega) ?_
    rw [hsz, List.take_append_of_le_length (by omega), List.take_of_length_le (by omega)]
    exact getB_turned h.head.1 h.head.2 y hy
  | f :: fs, k + 1, y, h, hk, hy => by
    have hk' : k < fs.length := by simpa using hk
    have hp := bytesOf_pos h.tail k hk'
    have e0 : bytesOf ((f :: fs).take (k + 1 + 1)) - 1 = (putB f).length + (bytesOf (fs.take (k + 1)) - 1) := by rw [List.take_succ_cons, bytesOf_cons]; omega
    rw [e0, joinB_cons] at hy ⊢
    rw [List.getElem?_append_right (by omega), Nat.add_sub_cancel_left] at hy
    rw [List.set_append_right _ _ (by omega), Nat.add_sub_cancel_left, List.take_succ_cons, List.map_cons]
    exact Cut.put h.head.1 h.head.2 (cut_turned fs k y h.tail hk' hy)
end Go.Proofs.YtmhfhdbaeijcfaaDoor
