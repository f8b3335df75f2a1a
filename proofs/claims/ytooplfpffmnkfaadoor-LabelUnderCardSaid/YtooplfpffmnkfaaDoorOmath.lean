/- The mathematics of which pattern is under which. -/
import Derived.Test.YtooplfpffmnkfaaDoorBma
namespace Go.Proofs.YtooplfpffmnkfaaDoor
open Go.Lib (hasPrefix hasSuffix trimPrefix)

theorem wild_of {p n : List UInt8} (h : fitsB p n = true) (hne : p ≠ n) : ∃ x, p = 42 :: 46 :: x ∧ nameB x = true ∧ x.length ≤ 61 ∧ (46 :: x) <:+ n := by
  obtain ⟨p1, _, p3⟩ := fits_pat h
  rcases pat_cases p1 with g | ⟨x, rfl, hx, hl⟩
  · rw [cov_name g, beq_iff_eq] at p3; exact absurd p3 hne
  · rw [cov_wild, suffix_iff] at p3
    exact ⟨x, rfl, hx, hl, p3⟩
theorem name_pieces {l : List UInt8} (h : nameB l = true) : (cutD l).length ≤ 8 := by
  simp only [nameB, Bool.and_eq_true, decide_eq_true_eq] at h
  exact h.1.1
theorem name_all {l : List UInt8} (h : nameB l = true) : ∀ x ∈ cutD l, labelB x = true := by
  simp only [nameB, Bool.and_eq_true, List.all_eq_true] at h
  exact h.2
theorem void_wild (x : List UInt8) : voidB (42 :: 46 :: x) = decide ((cutD x).length = 8) := by
  rw [voidB, cutD_length, List.count_cons_of_ne (by decide), List.count_cons_self, Bool.eq_iff_iff, beq_iff_eq, decide_eq_true_eq]
theorem fits_wild_void {x n : List UInt8} (hs : (46 :: x) <:+ n) (hn : nameB n = true) : voidB (42 :: 46 :: x) = false := by
  obtain ⟨A, hA, e⟩ := (suffix_cutD x n).1 hs
  have h1 := name_pieces hn
  have h2 := List.length_pos_iff.2 hA
  rw [e, List.length_append] at h1
  rw [void_wild, decide_eq_false (by omega)]
theorem suffix_star {x y : List UInt8} : (46 :: y) <:+ (42 :: 46 :: x) ↔ (46 :: y) <:+ (46 :: x) := by
  constructor
  · intro h
    rcases List.suffix_cons_iff.1 h with h | h
    · injection h with h1 _
      exact absurd h1 (by decide)
    · exact h
  · intro h
    exact h.trans (List.suffix_cons _ _)
theorem cov_le {x y n : List UInt8} (hx : (46 :: x) <:+ n) (hy : (46 :: y) <:+ n) : covB (42 :: 46 :: y) (42 :: 46 :: x) = decide (y.length ≤ x.length) := by
  rw [cov_wild, Bool.eq_iff_iff, suffix_iff, decide_eq_true_eq, suffix_star]
  constructor
  · intro h
    have := h.length_le
    simpa using this
  · intro h
    exact List.suffix_of_suffix_length_le hy hx (by simpa using h)
theorem under_len {p q n : List UInt8} (hp : fitsB p n = true) (hq : fitsB q n = true) (h1 : p ≠ n) (h2 : q ≠ n) (hne : p ≠ q) :
    underB p q = decide (q.length < p.length) ∧ underB q p = decide (p.length < q.length) ∧ p.length ≠ q.length := by
  obtain ⟨x, rfl, hx, hlx, sx⟩ := wild_of hp h1
  obtain ⟨y, rfl, hy, hly, sy⟩ := wild_of hq h2
  have hn := (fits_pat hp).2.1
  have hl : x.length ≠ y.length := by
    intro e
    apply hne
    rw [fit_unique hp hq (by rw [key, key, if_neg h1, if_neg h2]; simp [e])]
  refine ⟨?_, ?_, by simpa using hl⟩
  · rw [underB, (fits_pat hp).1, (fits_pat hq).1, fits_wild_void sx hn, cov_le sx sy]
    simp
    omega
  · rw [underB, (fits_pat hp).1, (fits_pat hq).1, fits_wild_void sy hn, cov_le sy sx]
    simp
    omega
theorem best_two {p q n : List UInt8} (hp : fitsB p n = true) (hq : fitsB q n = true) : bestL [p, q] n 2 = if betterB q p n = true then some 1 else some 0 := by
  have h0 : nth [p, q] 0 = p := rfl
  have h1 : nth [p, q] 1 = q := rfl
  have e1 : bestL [p, q] n 1 = some 0 := by
    show (match bestL [p, q] n 0 with | none => if fitsB (nth [p, q] 0) n = true then some 0 else none | some i => if (fitsB (nth [p, q] 0) n && betterB (nth [p, q] 0) (nth [p, q] i) n) = true then some 0 else some i) = some 0
    rw [h0, hp]; rfl
  show (match bestL [p, q] n 1 with | none => if fitsB (nth [p, q] 1) n = true then some 1 else none | some i => if (fitsB (nth [p, q] 1) n && betterB (nth [p, q] 1) (nth [p, q] i) n) = true then some 1 else some i) = _
  rw [e1]
  dsimp only
  rw [h1, h0, hq, Bool.true_and]
/-- Every name that the one fits is fitted by the other. -/
theorem under_fits {p q n : List UInt8} (hu : underB p q = true) (hf : fitsB p n = true) : fitsB q n = true := by
  obtain ⟨p1, hn, p3⟩ := fits_pat hf
  simp only [underB, Bool.and_eq_true, Bool.or_eq_true] at hu
  obtain ⟨⟨_, hq⟩, hu⟩ := hu
  have hc : covB q n = true := by
    by_cases he : p = n
    · subst he
      rcases hu with hu | hu
      · rcases pat_cases p1 with g | ⟨x, rfl, _, _⟩
        · have := name_pieces g
          rw [cutD_length] at this
          simp only [voidB, beq_iff_eq] at hu
          omega
        · exact absurd (nameB_noStar hn) (by simp [hasPrefix, List.isPrefixOf])
      · exact hu
    · obtain ⟨x, rfl, hx, hl, sx⟩ := wild_of hf he
      rw [fits_wild_void sx hn] at hu
      have hu : covB q (42 :: 46 :: x) = true := by simpa using hu
      rcases pat_cases hq with g | ⟨y, rfl, hy, hly⟩
      · rw [cov_name g, beq_iff_eq] at hu
        subst hu
        exact absurd (nameB_noStar g) (by simp [hasPrefix, List.isPrefixOf])
      · rw [cov_wild, suffix_iff, suffix_star] at hu
        rw [cov_wild, suffix_iff]
        exact hu.trans sx
  simp [fitsB, hq, hn, hc]
end Go.Proofs.YtooplfpffmnkfaaDoor
