/- Two texts that differ. -/
import Derived.Test.YtmhfhdbaeijcfaaDoorGA
namespace Go.Proofs.YtmhfhdbaeijcfaaDoor
theorem toList_ne {s t : ByteArray} (h : s ≠ t) : (s.toList == t.toList) = false := by
  have h2 : s.toList ≠ t.toList := fun e => h (by
    rw [ByteArray.toList_eq, ByteArray.toList_eq] at e
    exact ByteArray.ext (Array.toList_inj.1 e))
  simpa using h2
end Go.Proofs.YtmhfhdbaeijcfaaDoor
