/- When a frame is valid, by its fields: what the document's InForm asks. -/
import Derived.Test.YtmhfhdbaeijcfaaDoorRkda
import Derived.Test.YtmhfhdbaeijcfaaDoorRkdb
import Derived.Test.YtmhfhdbaeijcfaaDoorRkdm
import Derived.Test.YtmhfhdbaeijcfaaDoorRclo
import Derived.Test.YtmhfhdbaeijcfaaDoorRchi
import Derived.Test.YtmhfhdbaeijcfaaDoorRcn
namespace Go.Proofs.YtmhfhdbaeijcfaaDoor
open Go.RowKit
open Go.Proofs.YtmhfhdbaeijcfaaDoor.H

/-- A frame out of its own cells. -/
def selfF (f : Fr) : Fr := fill (zf f.kind) (used f.kind) ((used f.kind).map (cellF f))
theorem cellF_pl (f : Fr) (x : Nat) : cellF f.pl x = cellF f x := rfl
theorem ext_zero {f : Fr} {k : Int} {x : Nat} (hx : x < 9) (h : cellF f x = cellF (zf k) x) : ext f x = 0 := by
  rcases ext_nine x hx with rfl | rfl | rfl | rfl | rfl | rfl | rfl | rfl | rfl
  all_goals simp [cellF, ext, zf] at h ⊢
  all_goals first | exact h | (rw [h]; rfl) | (unfold wrap64; omega) | omega
theorem self_zero {f : Fr} (h : f.pl = selfF f) {x : Nat} (hx : x < 9) (hu : x ∉ used f.kind) : ext f x = 0 := by
  refine ext_zero (k := f.kind) hx ?_
  rw [← cellF_pl, h]
  exact cellF_fill _ _ _ _ hx (used_lt f.kind) hu
/-- A frame that is what its cells make it is valid just if the fields that its kind uses are within their bounds. -/
theorem valid_own {f : Fr} (h : f.pl = selfF f) (hne : used f.kind ≠ []) : valid f = (used f.kind).all fun x => decide (lo f.kind x ≤ ext f x) && decide (ext f x ≤ hi f.kind x) := by
  rw [Bool.eq_iff_iff]
  constructor
  · intro hv
    rw [List.all_eq_true]
    intro x hx
    unfold valid at hv
    simp only [Bool.and_eq_true, List.all_eq_true, List.mem_range] at hv
    have h2 := hv.2 x (used_lt f.kind x hx)
    unfold fits least most at h2
    rw [if_pos hx, if_pos hx] at h2
    have := of_decide_eq_true h2
    simp [this.1, this.2]
  · intro ha
    rw [List.all_eq_true] at ha
    unfold valid
    simp only [Bool.and_eq_true, List.all_eq_true, List.mem_range, bne_iff_ne, ne_eq]
    refine ⟨hne, fun x hx => ?_⟩
    unfold fits least most
    by_cases hu : x ∈ used f.kind
    · have := ha x hu
      simp at this
      rw [if_pos hu, if_pos hu]
      exact decide_eq_true this
    · rw [if_neg hu, if_neg hu, self_zero h hx hu]
      decide
theorem self_valid {f : Fr} (hv : valid f = true) (hw : f.weight < 18446744073709551616) : f.pl = selfF f := (fill_cells hv hw).symm
theorem cells_all_ok {f : Fr} {w : World} {B : Nat} (hf : f.ok w B) : ∀ x ∈ (used f.kind).map (cellF f), F.FC.ok x := by
  intro x hx
  obtain ⟨y, _, rfl⟩ := List.mem_map.1 hx
  exact cellF_ok f w B hf y
/-- What the document's Cells answers for every frame. -/
theorem rcells_every (f : Fr) : RCells f := by
  rcases kinds_or f.kind with (h | h | h | h | h | h | h | h | h | h | h | h | h | h | h | h | h) | h
  · exact rcells_lo f (by simp [h])
  · exact rcells_lo f (by simp [h])
  · exact rcells_lo f (by simp [h])
  · exact rcells_lo f (by simp [h])
  · exact rcells_lo f (by simp [h])
  · exact rcells_lo f (by simp [h])
  · exact rcells_lo f (by simp [h])
  · exact rcells_lo f (by simp [h])
  · exact rcells_hi f (by simp [h])
  · exact rcells_hi f (by simp [h])
  · exact rcells_hi f (by simp [h])
  · exact rcells_hi f (by simp [h])
  · exact rcells_hi f (by simp [h])
  · exact rcells_hi f (by simp [h])
  · exact rcells_hi f (by simp [h])
  · exact rcells_hi f (by simp [h])
  · exact rcells_hi f (by simp [h])
  · exact rcells_n f h
theorem three_of {l : List F.FC} (h : l.length = 3) : ∃ a b c, l = [a, b, c] := by
  match l, h with
  | [a, b, c], _ => exact ⟨a, b, c, rfl⟩
theorem two_of {l : List F.FC} (h : l.length = 2) : ∃ a b, l = [a, b] := by
  match l, h with
  | [a, b], _ => exact ⟨a, b, rfl⟩
theorem one_of {l : List F.FC} (h : l.length = 1) : ∃ a, l = [a] := by
  match l, h with
  | [a], _ => exact ⟨a, rfl⟩
/-- What the document's Kind answers for every kind's cells. -/
theorem rkindy_every (k : Int) (A : Option Addr) (CC : Nat) (cs : List F.FC) (w : World) (hk : used k ≠ []) (hl : cs.length = (used k).length) (hc : F.CsR w w.heap.size A cs) (hx : ∀ x ∈ cs, F.FC.ok x) :
    Calls Tryd.prog 52 #[.int .i64 k, .slice A (used k).length CC] w (RKy k cs w) := by
  rcases kinds_or k with (rfl | rfl | rfl | rfl | rfl | rfl | rfl | rfl | rfl | rfl | rfl | rfl | rfl | rfl | rfl | rfl | rfl) | h
  · obtain ⟨a, b, c, rfl⟩ := three_of hl; exact rkind_1 A CC a b c w hc hx
  · obtain ⟨a, rfl⟩ := one_of hl; exact rkind_2 A CC a w hc hx
  · obtain ⟨a, rfl⟩ := one_of hl; exact rkind_3 A CC a w hc hx
  · obtain ⟨a, b, rfl⟩ := two_of hl; exact rkind_4 A CC a b w hc hx
  · obtain ⟨a, rfl⟩ := one_of hl; exact rkind_5 A CC a w hc hx
  · obtain ⟨a, rfl⟩ := one_of hl; exact rkind_6 A CC a w hc hx
  · obtain ⟨a, b, c, rfl⟩ := three_of hl; exact rkind_7 A CC a b c w hc hx
  · obtain ⟨a, b, rfl⟩ := two_of hl; exact rkind_8 A CC a b w hc hx
  · obtain ⟨a, b, c, rfl⟩ := three_of hl; exact rkind_9 A CC a b c w hc hx
  · obtain ⟨a, b, c, rfl⟩ := three_of hl; exact rkind_10 A CC a b c w hc hx
  · obtain ⟨a, b, rfl⟩ := two_of hl; exact rkind_11 A CC a b w hc hx
  · obtain ⟨a, b, c, rfl⟩ := three_of hl; exact rkind_12 A CC a b c w hc hx
  · obtain ⟨a, b, c, rfl⟩ := three_of hl; exact rkind_13 A CC a b c w hc hx
  · obtain ⟨a, b, rfl⟩ := two_of hl; exact rkind_14 A CC a b w hc hx
  · obtain ⟨a, b, c, rfl⟩ := three_of hl; exact rkind_15 A CC a b c w hc hx
  · obtain ⟨a, b, c, rfl⟩ := three_of hl; exact rkind_16 A CC a b c w hc hx
  · obtain ⟨a, b, c, rfl⟩ := three_of hl; exact rkind_17 A CC a b c w hc hx
  · exact absurd (used_none k h) hk
theorem rkind_every (k : Int) (A : Option Addr) (CC : Nat) (cs : List F.FC) (w : World) (hk : used k ≠ []) (hl : cs.length = (used k).length) (hc : F.CsR w w.heap.size A cs) (hx : ∀ x ∈ cs, F.FC.ok x) :
    Calls Tryd.prog 52 #[.int .i64 k, .slice A (used k).length CC] w (RK k cs w) := (rkindy_every k A CC cs w hk hl hc hx).mono fun _ _ h => h.rk
end Go.Proofs.YtmhfhdbaeijcfaaDoor
