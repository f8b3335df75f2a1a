/- The layer's mathematics: texts cut at dots, labels, names, patterns, what a pattern fits, which is the best. No world, no program. -/
import Derived.Lib.SplitLaws
import Derived.Lib.Strings
namespace Go.Proofs.YtooplfpffmnkfaaDoor
open Go.Lib (index count splitK hasPrefix hasSuffix trimPrefix)

/-- A text cut at each dot. -/
def cutD : List UInt8 → List (List UInt8)
  | [] => [[]]
  | c :: r => if c = 46 then [] :: cutD r else match cutD r with
    | [] => [[c]]
    | h :: t => (c :: h) :: t
theorem cutD_ne : ∀ s, cutD s ≠ []
  | [] => by simp [cutD]
  | c :: r => by
    unfold cutD
    split
    · simp
    · split <;> simp
theorem cutD_dot (r : List UInt8) : cutD (46 :: r) = [] :: cutD r := by simp [cutD]
theorem cutD_other {c : UInt8} (h : c ≠ 46) {r x : List UInt8} {t : List (List UInt8)} (e : cutD r = x :: t) : cutD (c :: r) = (c :: x) :: t := by
  rw [cutD, if_neg h, e]
theorem cutD_app : ∀ a b : List UInt8, cutD (a ++ 46 :: b) = cutD a ++ cutD b
  | [], b => by simp [cutD]
  | c :: a, b => by
    have ih := cutD_app a b
    by_cases h : c = 46
    · subst h
      rw [List.cons_append, cutD_dot, cutD_dot, ih]; rfl
    · obtain ⟨x, t, e⟩ := List.exists_cons_of_ne_nil (cutD_ne a)
      rw [List.cons_append, cutD_other h e, cutD_other h (r := a ++ 46 :: b) (x := x) (t := t ++ cutD b) (by rw [ih, e]; rfl)]; rfl
theorem cutD_length : ∀ s : List UInt8, (cutD s).length = s.count 46 + 1
  | [] => rfl
  | c :: r => by
    have ih := cutD_length r
    by_cases h : c = 46
    · subst h
      rw [cutD_dot, List.length_cons, ih, List.count_cons_self]
    · obtain ⟨x, t, e⟩ := List.exists_cons_of_ne_nil (cutD_ne r)
      rw [cutD_other h e, List.length_cons, List.count_cons_of_ne (by simpa using h), ← ih, e, List.length_cons]
theorem cutD_none : ∀ s : List UInt8, 46 ∉ s → cutD s = [s]
  | [], _ => rfl
  | c :: r, h => by
    have h1 : c ≠ 46 := fun e => h (by simp [e])
    rw [cutD_other h1 (cutD_none r fun e => h (by simp [e]))]
/-- The pieces behind one another, a dot between. -/
def glue : List (List UInt8) → List UInt8
  | [] => []
  | [a] => a
  | a :: b :: r => a ++ 46 :: glue (b :: r)
theorem glue_cons (a : List UInt8) {r : List (List UInt8)} (h : r ≠ []) : glue (a :: r) = a ++ 46 :: glue r := by
  cases r with
  | nil => exact absurd rfl h
  | cons b r => rfl
theorem glue_cutD : ∀ s : List UInt8, glue (cutD s) = s
  | [] => rfl
  | c :: r => by
    have ih := glue_cutD r
    by_cases h : c = 46
    · subst h
      rw [cutD_dot, glue_cons _ (cutD_ne r), ih]; rfl
    · obtain ⟨x, t, e⟩ := List.exists_cons_of_ne_nil (cutD_ne r)
      rw [cutD_other h e]
      rw [e] at ih
      cases t with
      | nil => show c :: x = c :: r; rw [show x = r from ih]
      | cons y t =>
        rw [glue_cons _ (by simp)] at ih ⊢
        rw [List.cons_append, ih]
theorem glue_app : ∀ (A B : List (List UInt8)), A ≠ [] → B ≠ [] → glue (A ++ B) = glue A ++ 46 :: glue B
  | [], _, h, _ => absurd rfl h
  | [a], B, _, hB => glue_cons a hB
  | a :: b :: A, B, _, hB => by
    have ih := glue_app (b :: A) B (by simp) hB
    rw [List.cons_append, glue_cons a (by simp), ih, glue_cons a (r := b :: A) (by simp), List.append_assoc, List.cons_append]
/-- "." and x is an end of n just if x's pieces are the last of n's, and not all. -/
theorem suffix_cutD (x n : List UInt8) : (46 :: x) <:+ n ↔ ∃ A, A ≠ [] ∧ cutD n = A ++ cutD x := by
  constructor
  · rintro ⟨h, rfl⟩
    exact ⟨cutD h, cutD_ne h, cutD_app h x⟩
  · rintro ⟨A, hA, e⟩
    refine ⟨glue A, ?_⟩
    rw [← glue_cutD n, e, glue_app A _ hA (cutD_ne x), glue_cutD]

theorem splitK_cutD : ∀ s : List UInt8, splitK [46] 0 (count s [46]) s = cutD s
  | [] => rfl
  | c :: r => by
    have ih := splitK_cutD r
    by_cases h : c = 46
    · subst h
      rw [Go.Lib.count_cons_eq, Nat.add_comm, splitK, cutD_dot]
      have e : index (46 :: r) [46] = 0 := by simp [index]
      rw [e]
      simpa using ih
    · rw [Go.Lib.count_cons_ne c 46 r h]
      cases hk : count r [46] with
      | zero =>
        rw [hk] at ih
        have e : cutD r = [r] := ih.symm
        rw [cutD_other h e]; rfl
      | succ k =>
        rw [hk] at ih
        have hm : index r [46] ≠ -1 := fun e => by rw [Go.Lib.count_miss e] at hk; cases hk
        have hge := Go.Lib.index_ge r [46]
        obtain ⟨i, hi⟩ : ∃ i : Nat, index r [46] = i := ⟨(index r [46]).toNat, by omega⟩
        have e1 : index (c :: r) [46] = ((i + 1 : Nat) : Int) := by
          unfold index
          have h1 : ([46] : List UInt8).isPrefixOf (c :: r) = false := by simp [List.isPrefixOf]; exact fun e => h e.symm
          have h2 : ((i : Int) == -1) = false := by rw [beq_eq_false_iff_ne]; omega
          rw [h1, hi]
          simp [h2]
        have h3 : ¬ (index r [46] == -1) = true := by rw [hi, beq_iff_eq]; omega
        have h4 : ¬ (index (c :: r) [46] == -1) = true := by rw [e1, beq_iff_eq]; omega
        rw [splitK, if_neg h3, hi] at ih
        rw [splitK, if_neg h4, e1, cutD_other h ih.symm]
        simp

/-- A letter of a label. -/
def okB (c : UInt8) : Bool := (decide (97 ≤ c.toNat) && decide (c.toNat ≤ 122)) || (decide (48 ≤ c.toNat) && decide (c.toNat ≤ 57)) || c.toNat == 45
/-- Is a text a label? -/
def labelB (l : List UInt8) : Bool := decide (1 ≤ l.length) && decide (l.length ≤ 16) && l[0]? != some 45 && l[l.length - 1]? != some 45 && l.all okB
def nameB (l : List UInt8) : Bool := decide ((cutD l).length ≤ 8) && decide (l.length ≤ 63) && (cutD l).all labelB
def patB (l : List UInt8) : Bool := decide (l.length ≤ 63) && nameB (trimPrefix l [42, 46])
def covB (p n : List UInt8) : Bool := if hasPrefix p [42] = true then hasSuffix n (trimPrefix p [42]) else p == n
def fitsB (p n : List UInt8) : Bool := patB p && nameB n && covB p n
def voidB (p : List UInt8) : Bool := p.count 46 == 8
def underB (a b : List UInt8) : Bool := patB a && patB b && (voidB a || covB b a)

theorem labelB_not {l : List UInt8} {k : Nat} {c : UInt8} (h : l[k]? = some c) (hc : okB c = false) : labelB l = false := by
  have : l.all okB = false := by
    rw [List.all_eq_false]
    exact ⟨c, List.mem_of_getElem? h, by simp [hc]⟩
  simp [labelB, this]
theorem labelB_yes {l : List UInt8} (h1 : 1 ≤ l.length) (h2 : l.length ≤ 16) (h3 : l[0]? ≠ some 45) (h4 : l[l.length - 1]? ≠ some 45) (h5 : ∀ (k : Nat) c, l[k]? = some c → okB c = true) : labelB l = true := by
  have : l.all okB = true := by
    rw [List.all_eq_true]
    intro c hc
    obtain ⟨k, hk⟩ := List.getElem?_of_mem hc
    exact h5 k c hk
  simp only [labelB, this, decide_eq_true h1, decide_eq_true h2, Bool.and_true, Bool.true_and]
  simp [h3, h4]
theorem labelB_iff {l : List UInt8} : labelB l = true ↔ 1 ≤ l.length ∧ l.length ≤ 16 ∧ l[0]? ≠ some 45 ∧ l[l.length - 1]? ≠ some 45 ∧ ∀ (k : Nat) c, l[k]? = some c → okB c = true := by
  constructor
  · intro h
    simp only [labelB, Bool.and_eq_true, decide_eq_true_eq, bne_iff_ne, ne_eq, List.all_eq_true] at h
    obtain ⟨⟨⟨⟨h1, h2⟩, h3⟩, h4⟩, h5⟩ := h
    exact ⟨h1, h2, h3, h4, fun k c hk => h5 c (List.mem_of_getElem? hk)⟩
  · rintro ⟨h1, h2, h3, h4, h5⟩
    exact labelB_yes h1 h2 h3 h4 h5

/-- The first byte of a name is a letter of a label. -/
theorem nameB_first {l : List UInt8} (h : nameB l = true) : ∃ c r, l = c :: r ∧ okB c = true := by
  simp only [nameB, Bool.and_eq_true, List.all_eq_true] at h
  obtain ⟨x, t, e⟩ := List.exists_cons_of_ne_nil (cutD_ne l)
  have hx := labelB_iff.1 (h.2 x (by rw [e]; simp))
  cases l with
  | nil =>
    have e1 : x = [] := by
      simp [cutD] at e
      exact e.1
    rw [e1] at hx
    exact absurd hx.1 (by simp)
  | cons c r =>
    refine ⟨c, r, rfl, ?_⟩
    by_cases hc : c = 46
    · subst hc
      rw [cutD_dot] at e
      injection e with e1 e2
      rw [← e1] at hx
      exact absurd hx.1 (by simp)
    · obtain ⟨y, u, e2⟩ := List.exists_cons_of_ne_nil (cutD_ne r)
      rw [cutD_other hc e2] at e
      injection e with e1 e3
      rw [← e1] at hx
      exact hx.2.2.2.2 0 c rfl
theorem nameB_noStar {l : List UInt8} (h : nameB l = true) : hasPrefix l [42] = false := by
  obtain ⟨c, r, rfl, hc⟩ := nameB_first h
  have : c ≠ 42 := by rintro rfl; revert hc; decide
  simp [hasPrefix, List.isPrefixOf]
  exact fun e => this e.symm
theorem trim_same {l p : List UInt8} (h : hasPrefix l p = false) : trimPrefix l p = l := by simp [trimPrefix, h]
theorem trim_star (l : List UInt8) : trimPrefix (42 :: l) [42] = l := by simp [trimPrefix, hasPrefix, List.isPrefixOf]
theorem trim_wild (x : List UInt8) : trimPrefix (42 :: 46 :: x) [42, 46] = x := by simp [trimPrefix, hasPrefix, List.isPrefixOf]
theorem name_len {l : List UInt8} (h : nameB l = true) : l.length ≤ 63 := by
  simp only [nameB, Bool.and_eq_true, decide_eq_true_eq] at h
  exact h.1.2
theorem pat_len {l : List UInt8} (h : patB l = true) : l.length ≤ 63 := by
  simp only [patB, Bool.and_eq_true, decide_eq_true_eq] at h
  exact h.1
theorem star2_of {l : List UInt8} (h : hasPrefix l [42, 46] = true) : ∃ x, l = 42 :: 46 :: x := by
  match l, h with
  | [], h => simp [hasPrefix, List.isPrefixOf] at h
  | [a], h => simp [hasPrefix, List.isPrefixOf] at h
  | a :: b :: x, h =>
    simp [hasPrefix, List.isPrefixOf] at h
    exact ⟨x, by rw [h.1, h.2]⟩
/-- A pattern is a name, or "*." and a name. -/
theorem pat_cases {p : List UInt8} (h : patB p = true) : nameB p = true ∨ ∃ x, p = 42 :: 46 :: x ∧ nameB x = true ∧ x.length ≤ 61 := by
  have hl := pat_len h
  simp only [patB, Bool.and_eq_true] at h
  cases hp : hasPrefix p [42, 46] with
  | false => rw [trim_same hp] at h; exact .inl h.2
  | true =>
    obtain ⟨x, rfl⟩ := star2_of hp
    rw [trim_wild] at h
    exact .inr ⟨x, rfl, h.2, by simp at hl; omega⟩
theorem name_noStar2 {l : List UInt8} (h : nameB l = true) : hasPrefix l [42, 46] = false := by
  obtain ⟨c, r, rfl, hc⟩ := nameB_first h
  have : c ≠ 42 := by rintro rfl; revert hc; decide
  cases r with
  | nil => simp [hasPrefix, List.isPrefixOf]
  | cons d r => simp [hasPrefix, List.isPrefixOf]; exact fun e => absurd e.symm this
theorem pat_name {l : List UInt8} (h : nameB l = true) : patB l = true := by
  simp [patB, trim_same (name_noStar2 h), h, name_len h]
theorem pat_wild {x : List UInt8} (h : nameB x = true) (hl : x.length ≤ 61) : patB (42 :: 46 :: x) = true := by
  rw [patB, trim_wild, h]; simp; omega
theorem cov_name {p n : List UInt8} (h : nameB p = true) : covB p n = (p == n) := by simp [covB, nameB_noStar h]
theorem cov_wild (x n : List UInt8) : covB (42 :: 46 :: x) n = hasSuffix n (46 :: x) := by
  rw [covB, if_pos (by simp [hasPrefix, List.isPrefixOf]), trim_star]
theorem suffix_iff (n x : List UInt8) : hasSuffix n x = true ↔ x <:+ n := by simp [hasSuffix]

/-! The document's own. -/
def patR (s : List UInt8) : List UInt8 × Bool × Bool := if 2 < s.length ∧ s.take 2 = [42, 46] then (s.drop 2, true, nameB (s.drop 2) && decide (s.length ≤ 63)) else (s, false, nameB s)
theorem take2 {s : List UInt8} (h : 2 < s.length ∧ s.take 2 = [42, 46]) : ∃ x, s = 42 :: 46 :: x := by
  match s, h with
  | [], h => exact absurd h.1 (by simp)
  | [a], h => exact absurd h.1 (by simp)
  | a :: b :: x, h =>
    have := h.2
    simp at this
    exact ⟨x, by rw [this.1, this.2]⟩
theorem patR_ok (s : List UInt8) : (patR s).2.2 = patB s := by
  unfold patR
  split
  · rename_i h
    obtain ⟨x, rfl⟩ := take2 h
    simp [patB, trim_wild, Bool.and_comm]
  · rename_i h
    cases hp : hasPrefix s [42, 46] with
    | false =>
      show nameB s = _
      rw [patB, trim_same hp]
      cases hn : nameB s with
      | false => simp
      | true => simp [name_len hn]
    | true =>
      obtain ⟨x, rfl⟩ := star2_of hp
      have hx : x = [] := by
        cases x with
        | nil => rfl
        | cons c r => exact absurd ⟨by simp, by simp⟩ h
      subst hx
      decide
theorem patR_name {s : List UInt8} (h : nameB s = true) : patR s = (s, false, true) := by
  unfold patR
  rw [if_neg, h]
  intro h2
  obtain ⟨x, rfl⟩ := take2 h2
  have := name_noStar2 h
  simp [hasPrefix, List.isPrefixOf] at this
theorem patR_wild {x : List UInt8} (h : nameB x = true) (hl : x.length ≤ 61) : patR (42 :: 46 :: x) = (x, true, true) := by
  have hx : x ≠ [] := by
    obtain ⟨c, r, rfl, _⟩ := nameB_first h
    simp
  have hp : 0 < x.length := List.length_pos_iff.2 hx
  unfold patR
  rw [if_pos ⟨by simp; omega, by simp⟩]
  simp [h]
  omega
/-- Are a's pieces the last of b's, and not all? -/
def tailR (a b : List (List UInt8)) : Bool := decide (a.length < b.length) && (List.range a.length).all fun i => a[i]? == b[b.length - a.length + i]?
theorem tailR_iff (a b : List (List UInt8)) : tailR a b = true ↔ ∃ A, A ≠ [] ∧ b = A ++ a := by
  simp only [tailR, Bool.and_eq_true, decide_eq_true_eq, List.all_eq_true, List.mem_range, beq_iff_eq]
  constructor
  · rintro ⟨h1, h2⟩
    refine ⟨b.take (b.length - a.length), fun e => ?_, ?_⟩
    · have := congrArg List.length e
      simp at this
      omega
    · apply List.ext_getElem?
      intro j
      by_cases hj : j < b.length - a.length
      · rw [List.getElem?_append_left (by simp; omega), List.getElem?_take_of_lt hj]
      · rw [List.getElem?_append_right (by simp; omega)]
        have e : (List.take (b.length - a.length) b).length = b.length - a.length := by simp
        rw [e]
        by_cases hj2 : j < b.length
        · have := h2 (j - (b.length - a.length)) (by omega)
          rw [this]
          congr 1
          omega
        · rw [List.getElem?_eq_none (by omega), List.getElem?_eq_none (by omega)]
  · rintro ⟨A, hA, rfl⟩
    have hp : 0 < A.length := List.length_pos_iff.2 hA
    refine ⟨by simp; omega, fun i hi => ?_⟩
    rw [List.getElem?_append_right (by simp)]
    congr 1
    simp
def fitsR (p n : List UInt8) : Bool := (patR p).2.2 && nameB n && if (patR p).2.1 = true then tailR (cutD (patR p).1) (cutD n) else p == n
theorem fitsR_eq (p n : List UInt8) : fitsR p n = fitsB p n := by
  unfold fitsR fitsB
  rw [patR_ok]
  cases hp : patB p with
  | false => simp
  | true =>
    rcases pat_cases hp with h | ⟨x, rfl, hx, hl⟩
    · simp [patR_name h, cov_name h]
    · rw [patR_wild hx hl, cov_wild]
      have : tailR (cutD x) (cutD n) = hasSuffix n (46 :: x) := by
        rw [Bool.eq_iff_iff, tailR_iff, suffix_iff, suffix_cutD]
      simp [this]
end Go.Proofs.YtooplfpffmnkfaaDoor
