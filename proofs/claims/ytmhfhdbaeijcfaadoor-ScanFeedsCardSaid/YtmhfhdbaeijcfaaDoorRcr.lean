/- Rows of the document's cells. -/
import Derived.Test.YtmhfhdbaeijcfaaDoorRce
namespace Go.Proofs.YtmhfhdbaeijcfaaDoor
open Go.RowKit
open Go.Proofs.YtmhfhdbaeijcfaaDoor.H
theorem csr_row {w : World} {g : Nat} (cs : List F.FC) (h : Row w g 89 (F.flatR cs)) : F.CsR w w.heap.size (some ⟨g, 0, none⟩) cs := by
  refine .inr ⟨g, 0, rfl, h.lt, fun k x hx => ?_⟩
  obtain ⟨b1, b2, b3⟩ := F.flatR_at hx
  refine ⟨?_, ?_, ?_⟩
  · rw [h.cell (0 + k * 3), Nat.zero_add]; exact b1
  · rw [h.cell (0 + k * 3 + 1), Nat.zero_add]; exact b2
  · rw [h.cell (0 + k * 3 + 2), Nat.zero_add]; exact b3
end Go.Proofs.YtmhfhdbaeijcfaaDoor
