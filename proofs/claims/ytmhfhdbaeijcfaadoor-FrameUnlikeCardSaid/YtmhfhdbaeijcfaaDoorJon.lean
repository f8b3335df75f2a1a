/- Frames put one behind the other and cut at a byte: what a scanner makes of the two pieces; and of a stream whose frame k has a wrong check. -/
import Derived.Test.YtmhfhdbaeijcfaaDoorGS
namespace Go.Proofs.YtmhfhdbaeijcfaaDoor
open Go.RowKit
open Go.Proofs.YtmhfhdbaeijcfaaDoor.H
/-- How many frames end at byte c or ahead of it. -/
def cutN : List Fr → Nat → Nat
  | [], _ => 0
  | f :: fs, c => if (putB f).length ≤ c then cutN fs (c - (putB f).length) + 1 else 0
/-- What is left of the first c bytes behind those frames. -/
def cutR : List Fr → Nat → List UInt8
  | [], _ => []
  | f :: fs, c => if (putB f).length ≤ c then cutR fs (c - (putB f).length) else (putB f).take c
/-- Frames that can be put. -/
def Good (fs : List Fr) : Prop := ∀ f ∈ fs, valid f = true ∧ f.fit
theorem Good.head {f : Fr} {fs : List Fr} (h : Good (f :: fs)) : valid f = true ∧ f.fit := h f (by simp)
theorem Good.tail {f : Fr} {fs : List Fr} (h : Good (f :: fs)) : Good fs := fun g hg => h g (by simp [hg])
theorem Good.snoc {f : Fr} {fs : List Fr} (h : Good fs) (hv : valid f = true) (hf : f.fit) : Good (fs ++ [f]) := fun g hg => by
  rcases List.mem_append.1 hg with hg | hg
  · exact h g hg
  · simp at hg; subst hg; exact ⟨hv, hf⟩
theorem joinB_cons (f : Fr) (fs : List Fr) : joinB (f :: fs) = putB f ++ joinB fs := by simp [joinB]
theorem joinB_snoc (fs : List Fr) (f : Fr) : joinB (fs ++ [f]) = joinB fs ++ putB f := by simp [joinB]
theorem joinB_length (fs : List Fr) : (joinB fs).length = bytesOf fs := by
  induction fs with
  | nil => rfl
  | cons f fs ih => rw [joinB_cons, List.length_append, ih, bytesOf_cons]
theorem cutN_le : ∀ (fs : List Fr) (c : Nat), cutN fs c ≤ fs.length
  | [], c => Nat.le_refl _
  | f :: fs, c => by
    unfold cutN
    split
    · have := cutN_le fs (c - (putB f).length)
      simp only [List.length_cons]
      omega
    · exact Nat.zero_le _
/-- Frame k ends at byte c or ahead of it just if it is among them. -/
theorem cutN_iff : ∀ (fs : List Fr) (c k : Nat), k < fs.length → (bytesOf (fs.take (k + 1)) ≤ c ↔ k < cutN fs c)
  | [], c, k, hk => by simp at hk
  | f :: fs, c, k, hk => by
    rw [List.take_succ_cons, bytesOf_cons]
    unfold cutN
    split
    · rename_i h
      cases k with
      | zero => simp [bytesOf]; exact h
      | succ k =>
        have := cutN_iff fs (c - (putB f).length) k (by simpa using hk)
        omega
    · rename_i h
      omega
theorem cut_whole : ∀ (fs : List Fr), Good fs → Cut (joinB fs) (fs.map Fr.pl) [] false
  | [], _ => .short [] (by simp)
  | f :: fs, h => by
    rw [joinB_cons]
    exact Cut.put h.head.1 h.head.2 (cut_whole fs h.tail)
theorem cut_first : ∀ (fs : List Fr) (c : Nat), Good fs → Cut ((joinB fs).take c) ((fs.take (cutN fs c)).map Fr.pl) (cutR fs c) false
  | [], c, _ => by simpa [joinB, cutN, cutR] using Cut.short [] (by simp)
  | f :: fs, c, h => by
    rw [joinB_cons]
    unfold cutN cutR
    split
    · rename_i hl
      rw [List.take_append, List.take_of_length_le hl, List.take_succ_cons, List.map_cons]
      exact Cut.put h.head.1 h.head.2 (cut_first fs _ h.tail)
    · rename_i hl
      rw [List.take_append_of_le_length (by omega)]
      simp only [List.take_zero, List.map_nil]
      exact Cut.of_inc (inc_putB h.head.1 h.head.2 c (by omega))
theorem cut_second : ∀ (fs : List Fr) (c : Nat), Good fs → Cut (cutR fs c ++ (joinB fs).drop c) ((fs.drop (cutN fs c)).map Fr.pl) [] false
  | [], c, _ => by simpa [joinB, cutN, cutR] using Cut.short [] (by simp)
  | f :: fs, c, h => by
    rw [joinB_cons]
    unfold cutN cutR
    split
    · rename_i hl
      rw [List.drop_append, List.drop_eq_nil_of_le hl, List.nil_append, List.drop_succ_cons]
      exact cut_second fs _ h.tail
    · rename_i hl
      rw [List.drop_append_of_le_length (by omega), ← List.append_assoc, List.take_append_drop, ← joinB_cons]
      simp only [List.drop_zero]
      exact cut_whole (f :: fs) h
theorem cutR_length (fs : List Fr) (c : Nat) (h : Good fs) (hc : c ≤ (joinB fs).length) : (cutR fs c).length = c - bytesOf (fs.take (cutN fs c)) ∧ bytesOf (fs.take (cutN fs c)) ≤ c := by
  have h1 := (cut_first fs c h).sum rfl
  have hb : ∀ l : List Fr, Good l → bytesOf (l.map Fr.pl) = bytesOf l := fun l => by
    induction l with
    | nil => intro _; rfl
    | cons f l ih =>
      intro hg
      rw [List.map_cons, bytesOf_cons, bytesOf_cons, ih hg.tail]
      have : putB f.pl = putB f := rfl
      rw [this]
  rw [hb _ (fun f hf => h f (List.mem_of_mem_take hf)), List.length_take] at h1
  omega
end Go.Proofs.YtmhfhdbaeijcfaaDoor
