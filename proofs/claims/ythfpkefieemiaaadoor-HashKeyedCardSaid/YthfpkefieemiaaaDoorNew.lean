/- The reference's New: a table of the words. -/
import Derived.Test.YthfpkefieemiaaaDoorTable
namespace Go.Proofs.YthfpkefieemiaaaDoor
open Go.RowKit

/-- Block g holds the table: the first words, those of the rounds; all below B. -/
def Tab (w : World) (B g : Nat) : Prop := ∃ (A : Option Addr) (c : Nat) (K : Option Addr) (d : Nat), g < B ∧ w.cell? ⟨g, 0, none⟩ = some (.slice A 8 c) ∧ w.cell? ⟨g, 1, none⟩ = some (.slice K 64 d) ∧ 8 ≤ c ∧ c ≤ 9223372036854775807 ∧ 64 ≤ d ∧ d ≤ 9223372036854775807 ∧ Rd w B A (H0.list.map uv) ∧ Rd w B K (KT.map uv)
theorem Tab.below {w w' : World} {B g : Nat} (h : Tab w B g) (hb : Below B w w') : Tab w' B g := by
  obtain ⟨A, c, K, d, h0, h1, h2, h3, h4, h5, h6, h7, h8⟩ := h
  exact ⟨A, c, K, d, h0, (hb.cell (p := ⟨g, 0, none⟩) h0).trans h1, (hb.cell (p := ⟨g, 1, none⟩) h0).trans h2, h3, h4, h5, h6, h7.below hb, h8.below hb⟩
theorem Tab.more {w : World} {B B' g : Nat} (h : Tab w B g) (hB : B ≤ B') : Tab w B' g := by
  obtain ⟨A, c, K, d, h0, h1, h2, h3, h4, h5, h6, h7, h8⟩ := h
  exact ⟨A, c, K, d, by omega, h1, h2, h3, h4, h5, h6, h7.more hB, h8.more hB⟩

set_option maxHeartbeats 400000 in
theorem new_any (w : World) : Calls Tryd.prog 15 #[] w fun e w' => ∃ g, e = .returned (.pointer (some ⟨g, 0, none⟩)) ∧ Hid (Tab w' w'.heap.size g ∧ Below w.heap.size w w') := by
  go_enter Tryd.func15, Tryd.ntmps15
  go_wp2_with fail
  with_reducible refine (words_any w).mono ?_
  rintro e w1 ⟨A, c, B, d, rfl, HW⟩
  go_wp2_with fail
  go_ret
  refine ⟨w1.heap.size, rfl, Lib.hid ⟨?_, ?_⟩⟩
  · obtain ⟨h3, h4, h5, h6, h7, h8, hb⟩ := HW.out
    have hb2 := below_alloc w1 (.cells #[.slice A 8 c, .slice B 64 d] 56)
    exact ⟨A, c, B, d, by simp, by simp, by simp, h3, h4, h5, h6, (h7.below hb2).more hb2.size, (h8.below hb2).more hb2.size⟩
  · exact HW.out.2.2.2.2.2.2.alloc HW.out.2.2.2.2.2.2.size _
end Go.Proofs.YthfpkefieemiaaaDoor
