/- The mathematics of the best pattern, and of which pattern is under which. -/
import Derived.Test.YtooplfpffmnkfaaDoorFew
namespace Go.Proofs.YtooplfpffmnkfaaDoor
open Go.Lib (hasPrefix hasSuffix trimPrefix)

def nth (L : List (List UInt8)) (i : Nat) : List UInt8 := (L[i]?).getD []
/-- The place of the best of the first k. -/
def bestL (L : List (List UInt8)) (n : List UInt8) : Nat → Option Nat
  | 0 => none
  | k + 1 => match bestL L n k with
    | none => if fitsB (nth L k) n = true then some k else none
    | some i => if (fitsB (nth L k) n && betterB (nth L k) (nth L i) n) = true then some k else some i
/-- The place of the longest of the first k that fit. -/
def lenL (L : List (List UInt8)) (n : List UInt8) : Nat → Option Nat
  | 0 => none
  | k + 1 => match lenL L n k with
    | none => if fitsB (nth L k) n = true then some k else none
    | some i => if (fitsB (nth L k) n && decide ((nth L i).length < (nth L k).length)) = true then some k else some i
def hitL (L : List (List UInt8)) (n : List UInt8) (k : Nat) : Bool := (nth L k == n) && fitsB (nth L k) n
def ov : Option Nat → Int
  | none => -1
  | some i => (i : Int)
def key (p n : List UInt8) : Nat := if p = n then 1000 else p.length
theorem fits_pat {p n : List UInt8} (h : fitsB p n = true) : patB p = true ∧ nameB n = true ∧ covB p n = true := by
  simp only [fitsB, Bool.and_eq_true] at h
  exact ⟨h.1.1, h.1.2, h.2⟩
theorem better_key {p q n : List UInt8} (hp : fitsB p n = true) (hq : fitsB q n = true) : betterB p q n = decide (key q n < key p n) := by
  have h1 := pat_len (fits_pat hp).1
  have h2 := pat_len (fits_pat hq).1
  rw [Bool.eq_iff_iff]
  simp only [betterB, key, Bool.and_eq_true, Bool.or_eq_true, bne_iff_ne, ne_eq, beq_iff_eq, decide_eq_true_eq]
  by_cases e1 : p = n <;> by_cases e2 : q = n <;> simp [e1, e2] <;> (try subst e1) <;> (try subst e2) <;> (try omega)
theorem fit_unique {p q n : List UInt8} (hp : fitsB p n = true) (hq : fitsB q n = true) (h : key p n = key q n) : p = q := by
  obtain ⟨p1, hn, p3⟩ := fits_pat hp
  obtain ⟨q1, _, q3⟩ := fits_pat hq
  have h1 := pat_len p1
  have h2 := pat_len q1
  unfold key at h
  by_cases e1 : p = n
  · by_cases e2 : q = n
    · rw [e1, e2]
    · rw [if_pos e1, if_neg e2] at h; omega
  · by_cases e2 : q = n
    · rw [if_neg e1, if_pos e2] at h; omega
    · rw [if_neg e1, if_neg e2] at h
      rcases pat_cases p1 with g1 | ⟨x, rfl, hx, hl1⟩
      · rw [cov_name g1, beq_iff_eq] at p3; exact absurd p3 e1
      · rcases pat_cases q1 with g2 | ⟨y, rfl, hy, hl2⟩
        · rw [cov_name g2, beq_iff_eq] at q3; exact absurd q3 e2
        · rw [cov_wild, suffix_iff] at p3 q3
          have h3 : x.length = y.length := by simpa using h
          have h4 : (46 :: x : List UInt8) = 46 :: y := by
            have h5 := List.suffix_iff_eq_drop.1 p3
            have h6 := List.suffix_iff_eq_drop.1 q3
            rw [h5, h6]
            simp [h3]
          injection h4 with _ h4
          rw [h4]
/-- What the best is. -/
def IsBest (L : List (List UInt8)) (n : List UInt8) (k : Nat) (o : Option Nat) : Prop :=
  match o with
  | none => ∀ j, j < k → fitsB (nth L j) n = false
  | some i => i < k ∧ fitsB (nth L i) n = true ∧ (∀ j, j < i → fitsB (nth L j) n = true → key (nth L j) n < key (nth L i) n) ∧ ∀ j, j < k → fitsB (nth L j) n = true → key (nth L j) n ≤ key (nth L i) n
theorem isBest_unique {L : List (List UInt8)} {n : List UInt8} {k : Nat} {a b : Option Nat} (ha : IsBest L n k a) (hb : IsBest L n k b) : a = b := by
  cases a with
  | none =>
    cases b with
    | none => rfl
    | some j => have := ha j hb.1; rw [hb.2.1] at this; cases this
  | some i =>
    cases b with
    | none => have := hb i ha.1; rw [ha.2.1] at this; cases this
    | some j =>
      obtain ⟨a1, a2, a3, a4⟩ := ha
      obtain ⟨b1, b2, b3, b4⟩ := hb
      rcases Nat.lt_trichotomy i j with h | h | h
      · have := b3 i h a2; have := a4 j b1 b2; omega
      · rw [h]
      · have := a3 j h b2; have := b4 i a1 a2; omega
theorem bestL_spec (L : List (List UInt8)) (n : List UInt8) : ∀ k, IsBest L n k (bestL L n k)
  | 0 => fun j hj => absurd hj (Nat.not_lt_zero _)
  | k + 1 => by
    have ih := bestL_spec L n k
    unfold bestL
    cases hb : bestL L n k with
    | none =>
      rw [hb] at ih
      by_cases hf : fitsB (nth L k) n = true
      · simp only [hf, if_true]
        refine ⟨Nat.lt_succ_self k, hf, fun j hj hfj => ?_, fun j hj hfj => ?_⟩
        · rw [ih j hj] at hfj; cases hfj
        · by_cases e : j = k
          · rw [e]; exact Nat.le_refl _
          · rw [ih j (by omega)] at hfj; cases hfj
      · simp only [hf]
        intro j hj
        by_cases e : j = k
        · rw [e]; simpa using hf
        · exact ih j (by omega)
    | some i =>
      rw [hb] at ih
      obtain ⟨i1, i2, i3, i4⟩ := ih
      dsimp only
      by_cases hf : fitsB (nth L k) n = true
      · rw [hf, Bool.true_and, better_key hf i2]
        by_cases hk : key (nth L i) n < key (nth L k) n
        · simp only [hk, decide_true, if_true]
          refine ⟨Nat.lt_succ_self k, hf, fun j hj hfj => Nat.lt_of_le_of_lt (i4 j hj hfj) hk, fun j hj hfj => ?_⟩
          by_cases e : j = k
          · rw [e]; exact Nat.le_refl _
          · exact Nat.le_of_lt (Nat.lt_of_le_of_lt (i4 j (by omega) hfj) hk)
        · simp only [hk, decide_false]
          refine ⟨by omega, i2, i3, fun j hj hfj => ?_⟩
          by_cases e : j = k
          · rw [e]; omega
          · exact i4 j (by omega) hfj
      · have hf' : fitsB (nth L k) n = false := by simpa using hf
        rw [hf', Bool.false_and]
        refine ⟨by omega, i2, i3, fun j hj hfj => ?_⟩
        by_cases e : j = k
        · rw [e, hf'] at hfj; cases hfj
        · exact i4 j (by omega) hfj
theorem best_hit {L : List (List UInt8)} {n : List UInt8} {N k : Nat} (hk : k < N) (hh : hitL L n k = true) (hb : ∀ j, j < k → hitL L n j = false) : bestL L n N = some k := by
  refine isBest_unique (bestL_spec L n N) ?_
  simp only [hitL, Bool.and_eq_true, beq_iff_eq] at hh
  have e : key (nth L k) n = 1000 := by rw [key, if_pos hh.1]
  refine ⟨hk, hh.2, fun j hj hf => ?_, fun j _ hf => ?_⟩
  · have h1 := hb j hj
    simp only [hitL, hf, Bool.and_true, beq_eq_false_iff_ne, ne_eq] at h1
    have h2 := pat_len (fits_pat hf).1
    rw [e, key, if_neg h1]; omega
  · have h2 := pat_len (fits_pat hf).1
    rw [e, key]
    split <;> omega
theorem best_len {L : List (List UInt8)} {n : List UInt8} : ∀ k, (∀ j, j < k → hitL L n j = false) → bestL L n k = lenL L n k
  | 0, _ => rfl
  | k + 1, h => by
    have ih := best_len k (fun j hj => h j (by omega))
    have hs := bestL_spec L n k
    unfold bestL lenL
    rw [ih] at hs ⊢
    cases hb : lenL L n k with
    | none => rfl
    | some i =>
      rw [hb] at hs
      have hi : i < k := hs.1
      have hfi : fitsB (nth L i) n = true := hs.2.1
      by_cases hf : fitsB (nth L k) n = true
      · have n1 := h k (by omega)
        have n2 := h i (by omega)
        simp only [hitL, hf, hfi, Bool.and_true, beq_eq_false_iff_ne, ne_eq] at n1 n2
        have e : betterB (nth L k) (nth L i) n = decide ((nth L i).length < (nth L k).length) := by
          rw [better_key hf hfi, key, key, if_neg n1, if_neg n2]
        simp only [e]
      · have hf' : fitsB (nth L k) n = false := by simpa using hf
        simp only [hf', Bool.false_and]
theorem nth_rev {L : List (List UInt8)} {j : Nat} (h : j < L.length) : nth L.reverse j = nth L (L.length - 1 - j) := by
  unfold nth
  rw [List.getElem?_reverse h]
/-- Turned round it is as good. -/
theorem best_turned (L : List (List UInt8)) (n : List UInt8) : (bestL L n L.length = none ∧ bestL L.reverse n L.length = none) ∨
    ∃ i j, bestL L n L.length = some i ∧ bestL L.reverse n L.length = some j ∧ i < L.length ∧ j < L.length ∧ nth L i = nth L.reverse j := by
  have h1 := bestL_spec L n L.length
  have h2 := bestL_spec L.reverse n L.length
  cases ha : bestL L n L.length with
  | none =>
    cases hb : bestL L.reverse n L.length with
    | none => exact .inl ⟨rfl, rfl⟩
    | some j =>
      rw [ha] at h1; rw [hb] at h2
      have h3 := h2.2.1
      rw [nth_rev h2.1] at h3
      have := h1 (L.length - 1 - j) (by have := h2.1; omega)
      rw [this] at h3; cases h3
  | some i =>
    cases hb : bestL L.reverse n L.length with
    | none =>
      rw [ha] at h1; rw [hb] at h2
      have h3 := h2 (L.length - 1 - i) (by have := h1.1; omega)
      rw [nth_rev (by have := h1.1; omega)] at h3
      have e : L.length - 1 - (L.length - 1 - i) = i := by have := h1.1; omega
      rw [e, h1.2.1] at h3; cases h3
    | some j =>
      rw [ha] at h1; rw [hb] at h2
      refine .inr ⟨i, j, rfl, rfl, h1.1, h2.1, ?_⟩
      obtain ⟨a1, a2, a3, a4⟩ := h1
      obtain ⟨b1, b2, b3, b4⟩ := h2
      refine fit_unique a2 b2 ?_
      have g1 := a4 (L.length - 1 - j) (by omega)
      rw [← nth_rev b1] at g1
      have g2 := b4 (L.length - 1 - i) (by omega)
      rw [nth_rev (by omega)] at g2
      have e : L.length - 1 - (L.length - 1 - i) = i := by omega
      rw [e] at g2
      have := g1 b2
      have := g2 a2
      omega
theorem bestL_lt {L : List (List UInt8)} {n : List UInt8} {k i : Nat} (h : bestL L n k = some i) : i < k := by
  have := bestL_spec L n k
  rw [h] at this
  exact this.1
theorem lenL_lt {L : List (List UInt8)} {n : List UInt8} : ∀ {k i : Nat}, lenL L n k = some i → i < k
  | 0, _, h => by cases h
  | k + 1, i, h => by
    unfold lenL at h
    cases hb : lenL L n k with
    | none =>
      rw [hb] at h
      dsimp only at h
      split at h
      · injection h with h; omega
      · cases h
    | some j =>
      have := lenL_lt hb
      rw [hb] at h
      dsimp only at h
      split at h
      · injection h with h; omega
      · injection h with h; omega
end Go.Proofs.YtooplfpffmnkfaaDoor
