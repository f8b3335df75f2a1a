/- For the law FrameFields: its argument, small facts. -/
import Derived.Test.YtmhfhdbaeijcfaaDoorGE
import Derived.Lib.ConvBytes
import Derived.Deep.RegionHeld3
import Derived.Deep.RegionWith
import Derived.Laws.Closers25b
namespace Go.Proofs.YtmhfhdbaeijcfaaDoor
open Go.RowKit
open Go.Proofs.YtmhfhdbaeijcfaaDoor.H
attribute [local go_sem] F.run_store_f64

theorem rd_keepSet {w : World} {B q : Nat} {xs : List Value} (h : Rd w B (some ⟨q, 0, none⟩) xs) (g k : Nat) (v : Value) (hq : g < q) : Rd (w.setCell ⟨g, k, none⟩ v) B (some ⟨q, 0, none⟩) xs := by
  rcases h with h | ⟨ad, h1, h2, h3⟩
  · exact .inl h
  · injection h1 with h1
    subst h1
    refine .inr ⟨_, rfl, h2, fun j u hj => ?_⟩
    rw [← h3 j u hj]
    unfold World.cell?
    rw [add_block, Below.heap_setCell w ⟨g, k, none⟩ v q (by show q ≠ g; omega)]
theorem nonempty {s : ByteArray} (h : s ≠ ⟨#[]⟩) : s.toList.isEmpty = false := by
  cases hq : s.toList with
  | nil => exact absurd ((toList_nil_iff_emptyBytes s).1 hq) h
  | cons x l => rfl
/-- The argument's cells: a frame, which field, a number, a text. -/
def cells13 (f : Fr) (m : Nat) (wh z : Int) (s : ByteArray) : List Value := f.cells m ++ [.int .i64 wh, .int .i64 z, .string s]
theorem cells_one13 (f : Fr) (n : Nat) : ∀ v ∈ f.cells n, v.oneCell' = true := by
  intro v hv
  unfold Fr.cells at hv
  simp at hv
  rcases hv with rfl | rfl | rfl | rfl | rfl | rfl | rfl | rfl | rfl | rfl <;> rfl
end Go.Proofs.YtmhfhdbaeijcfaaDoor
