/- What the bound on an input's bulk gives: every string and every slice in it is at most so long. -/
import Derived.Test.YtcphfgiegpnpeaaDoorArgs
import Derived.Deep.DeepHandedRow
import Derived.Deep.DeepWitnessRowRef
namespace Go.Proofs.YtcphfgiegpnpeaaDoor
open Go.ChangeShapes Go.WideShapes Go.ChangeAt Go.WideMaps Go.WideElems Go.RowKit

section
variable {H : Type}
theorem bulk_pos : ∀ d : DataW H, 0 < Rows.uptoBulk d
  | .lit (.string _) => by simp [Rows.uptoBulk]
  | .lit (.int _ _) => by simp [Rows.uptoBulk]
  | .lit (.bool _) => by simp [Rows.uptoBulk]
  | .lit (.float _ _) => by simp [Rows.uptoBulk]
  | .lit .nil => by simp [Rows.uptoBulk]
  | .nil => by simp [Rows.uptoBulk]
  | .ptr _ => by simp [Rows.uptoBulk]
  | .slice _ _ => by simp [Rows.uptoBulk]
  | .agg _ => by simp [Rows.uptoBulk]
  | .iface _ _ => by simp [Rows.uptoBulk]
  | .map _ => by simp [Rows.uptoBulk]
  | .held _ => by simp [Rows.uptoBulk]
theorem bulk_count (l : List (DataW H)) : l.length ≤ Rows.uptoBulkAll l := by
  induction l with
  | nil => exact Nat.zero_le _
  | cons d l ih =>
    have := bulk_pos d
    show l.length + 1 ≤ Rows.uptoBulk d + Rows.uptoBulkAll l
    omega
theorem bulk_of_mem {d : DataW H} {l : List (DataW H)} (h : d ∈ l) : Rows.uptoBulk d ≤ Rows.uptoBulkAll l := by
  induction l with
  | nil => cases h
  | cons x l ih =>
    show _ ≤ Rows.uptoBulk x + Rows.uptoBulkAll l
    rcases List.mem_cons.1 h with rfl | h
    · omega
    · have := ih h; omega
theorem bulk_small {l : List (DataW H)} (h : Rows.uptoSmall H l = true) : Rows.uptoBulkAll l ≤ 1048576 := of_decide_eq_true h
theorem str_small {l : List (DataW H)} (h : Rows.uptoBulkAll l ≤ 1048576) {s : ByteArray} (hm : DataW.lit (.string s.data.toList) ∈ l) : s.size ≤ 1048576 := by
  have h1 := bulk_of_mem hm
  have h2 : Rows.uptoBulk (DataW.lit (H := H) (.string s.data.toList)) = s.data.toList.length + 1 := by simp only [Rows.uptoBulk]
  have h3 : s.data.toList.length = s.size := by simp
  omega
theorem sl_small {l : List (DataW H)} (h : Rows.uptoBulkAll l ≤ 1048576) {d : DataW H} (hm : d ∈ l) {n : Nat} (hd : n = 0 ∨ ∃ el sp, d = .slice el sp ∧ el.length = n) : n ≤ 1048576 := by
  rcases hd with h0 | ⟨el, sp, rfl, hl⟩
  · omega
  · have h1 := bulk_of_mem hm
    have h2 : Rows.uptoBulk (DataW.slice el sp) = Rows.uptoBulkAll el + Rows.uptoBulkAll sp + 1 := by simp only [Rows.uptoBulk]
    have h3 := bulk_count el
    omega
end

theorem laidOut : laidOutB Tryd.prog = true := by kernel_rfl
theorem read22 : Tryd.prog.readableRec 22 = true := by kernel_rfl
theorem read24 : Tryd.prog.readableRec 24 = true := by kernel_rfl
theorem size100 : Tryd.prog.types.size = 100 := by kernel_rfl
theorem row22 : 22 < Tryd.prog.types.size := by rw [size100]; decide
theorem row24 : 24 < Tryd.prog.types.size := by rw [size100]; decide
end Go.Proofs.YtcphfgiegpnpeaaDoor
