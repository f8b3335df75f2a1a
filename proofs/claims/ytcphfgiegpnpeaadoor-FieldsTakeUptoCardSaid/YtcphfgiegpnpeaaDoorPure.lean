/- Plain mathematics: what is made is taken apart again, what is taken apart is made again, bytes cut short are too short. No program, no memory. -/
import Derived.Test.YtcphfgiegpnpeaaDoorRowsw
namespace Go.Proofs.YtcphfgiegpnpeaaDoor
open Go.RowKit

/-- What of a cell its letter keeps. -/
def normC (c : Nat) (x : FC) : FC := if c = 102 then { f := x.f } else if isT c = true then { s := x.s } else { n := x.n }
def norms : List UInt8 → List FC → List FC
  | c :: l, x :: cs => normC c.toNat x :: norms l cs
  | _, _ => []

theorem great_text_eq {c : Nat} (h : isT c = true) : (hd c = 1 ∨ hd c = 2) ∧ great (hd c) = 256 ^ hd c - 1 := by
  unfold isT at h
  rcases of_decide_eq_true h with rfl | rfl <;> decide
theorem great_lt {h : Nat} (hh : h = 1 ∨ h = 2 ∨ h = 4 ∨ h = 8) : great h < 256 ^ h := by
  rcases hh with rfl | rfl | rfl | rfl <;> decide
theorem be_take (k n : Nat) (r : List UInt8) : (be k n ++ r).take k = be k n := by
  rw [List.take_append_of_le_length (by rw [be_length]; exact Nat.le_refl _), List.take_of_length_le (by rw [be_length]; exact Nat.le_refl _)]
theorem be_drop (k n : Nat) (r : List UInt8) : (be k n ++ r).drop k = r := by
  rw [List.drop_append_of_le_length (by rw [be_length]; exact Nat.le_refl _), List.drop_eq_nil_of_le (by rw [be_length]; exact Nat.le_refl _), List.nil_append]
theorem not102 {c : Nat} (h : isT c = true) : c ≠ 102 := by rintro rfl; revert h; decide
theorem mk_toList (s : ByteArray) : (⟨s.data.toList.toArray⟩ : ByteArray) = s := by cases s; simp

theorem sizeS_inv {c : Nat} {x : FC} {n : Nat} (h : sizeS c x = .ok n) :
    (c = 102 ∧ n = hd c) ∨ (c ≠ 102 ∧ isT c = true ∧ x.s.size ≤ great (hd c) ∧ n = hd c + x.s.size) ∨ (c ≠ 102 ∧ isT c = false ∧ 0 ≤ x.n ∧ x.n ≤ great (hd c) ∧ n = hd c) := by
  unfold sizeS at h
  split at h
  · rename_i hf; injection h with h; exact .inl ⟨hf, h.symm⟩
  · rename_i hf
    split at h
    · rename_i ht
      split at h
      · cases h
      · injection h with h; exact .inr (.inl ⟨hf, ht, by omega, h.symm⟩)
    · rename_i ht
      split at h
      · cases h
      · rename_i hh
        injection h with h
        exact .inr (.inr ⟨hf, by simpa using ht, by omega, by omega, h.symm⟩)

theorem span_field {c : Nat} {x : FC} {n : Nat} (h0 : hd c ≠ 0) (h : sizeS c x = .ok n) (rest : List UInt8) : spanS c (fieldB c x ++ rest) = .ok n := by
  have hg := great_lt (hd_cases h0)
  rcases sizeS_inv h with ⟨rfl, rfl⟩ | ⟨hf, ht, hs, rfl⟩ | ⟨hf, ht, hp, hs, rfl⟩
  · have e : fieldB 102 x = be 8 x.f := by simp [fieldB, hd]
    rw [e]
    exact spanS_float (by rw [List.length_append, be_length]; show ¬ 8 + _ < 8; omega) (by decide) rfl
  · have e : fieldB c x = be (hd c) x.s.size ++ x.s.data.toList := by simp [fieldB, hf, ht]
    have hl : x.s.data.toList.length = x.s.size := by simp
    rw [e, List.append_assoc]
    have hn : num ((be (hd c) x.s.size ++ (x.s.data.toList ++ rest)).take (hd c)) = x.s.size := by rw [be_take, num_be, Nat.mod_eq_of_lt (by omega)]
    rw [spanS_text (by rw [List.length_append, be_length]; omega) ht (by rw [hn, List.length_append, be_length, List.length_append]; omega), hn]
  · have e : fieldB c x = be (hd c) x.n.toNat := by simp [fieldB, hf, ht]
    rw [e]
    exact spanS_num (by rw [List.length_append, be_length]; omega) ht (by rw [be_take, num_be, Nat.mod_eq_of_lt (by omega)]; omega)
theorem cell_field {c : Nat} {x : FC} {n : Nat} (h0 : hd c ≠ 0) (hx : x.ok) (h : sizeS c x = .ok n) : cellS c (fieldB c x) = normC c x := by
  have hg := great_lt (hd_cases h0)
  rcases sizeS_inv h with ⟨rfl, rfl⟩ | ⟨hf, ht, hs, rfl⟩ | ⟨hf, ht, hp, hs, rfl⟩
  · have e : fieldB 102 x = be 8 x.f := by simp [fieldB, hd]
    have e2 : (be 8 x.f).take 8 = be 8 x.f := List.take_of_length_le (by rw [be_length]; exact Nat.le_refl _)
    have hf := hx.2.2.1
    rw [e, cellS, if_pos rfl, show hd 102 = 8 from rfl, e2, num_be, Nat.mod_eq_of_lt (by omega), normC, if_pos rfl]
  · have e : fieldB c x = be (hd c) x.s.size ++ x.s.data.toList := by simp [fieldB, hf, ht]
    rw [e, cellS, if_neg hf, if_pos ht, be_drop, mk_toList, normC, if_neg hf, if_pos ht]
  · have e : fieldB c x = be (hd c) x.n.toNat := by simp [fieldB, hf, ht]
    have e2 : (be (hd c) x.n.toNat).take (hd c) = be (hd c) x.n.toNat := List.take_of_length_le (by rw [be_length]; exact Nat.le_refl _)
    rw [e, cellS, if_neg hf, ht, e2, num_be, Nat.mod_eq_of_lt (by omega), normC, if_neg hf, ht]
    simp only [Bool.false_eq_true, if_false, Int.toNat_of_nonneg hp]
theorem span_cut {c : Nat} {x : FC} {n cut : Nat} (h0 : hd c ≠ 0) (h : sizeS c x = .ok n) (hc : cut < n) : spanS c ((fieldB c x).take cut) = .error 1 := by
  have hg := great_lt (hd_cases h0)
  have hl := fieldB_length h
  by_cases hh : cut < hd c
  · exact spanS_short (by rw [List.length_take]; omega)
  · rcases sizeS_inv h with ⟨rfl, rfl⟩ | ⟨hf, ht, hs, rfl⟩ | ⟨hf, ht, hp, hs, rfl⟩
    · omega
    · have e : fieldB c x = be (hd c) x.s.size ++ x.s.data.toList := by simp [fieldB, hf, ht]
      refine spanS_long (by rw [List.length_take]; omega) ht ?_
      rw [List.take_take, Nat.min_eq_left (by omega), e, be_take, num_be, Nat.mod_eq_of_lt (by omega), List.length_take, List.length_append, be_length]
      omega
    · omega

theorem kn_cons {c : UInt8} {l : List UInt8} (h : kn (c :: l) = true) : hd c.toNat ≠ 0 ∧ kn l = true := by
  unfold kn at h ⊢
  rw [List.all_cons, Bool.and_eq_true] at h
  exact ⟨by simpa using h.1, h.2⟩
theorem sumS_cons {c : UInt8} {l : List UInt8} {x : FC} {cs : List FC} {m : Nat} (h : sumS (c :: l) (x :: cs) = .ok m) : ∃ n k, sizeS c.toNat x = .ok n ∧ sumS l cs = .ok k ∧ m = n + k := by
  simp only [sumS] at h
  split at h
  · cases h
  · rename_i n hn
    split at h
    · cases h
    · rename_i k hk
      injection h with h
      exact ⟨n, k, hn, hk, h.symm⟩

theorem dec_enc {l : List UInt8} : ∀ {cs : List FC} {m : Nat}, kn l = true → cs.length = l.length → (∀ x ∈ cs, x.ok) → sumS l cs = .ok m → ∀ more : List UInt8,
    decS l (encB l cs ++ more) = if more = [] then .ok (norms l cs) else .error 0 := by
  induction l with
  | nil =>
    intro cs m _ hl _ _ more
    have : cs = [] := List.eq_nil_of_length_eq_zero hl
    subst this
    by_cases hm : more = [] <;> simp [encB, norms, decS, hm]
  | cons c l ih =>
    intro cs m hk hl hok hs more
    match cs, hl with
    | x :: cs, hl =>
      obtain ⟨n, k, hn, hk2, rfl⟩ := sumS_cons hs
      obtain ⟨h0, hk'⟩ := kn_cons hk
      have hlen := fieldB_length hn
      have e1 : encB (c :: l) (x :: cs) ++ more = fieldB c.toNat x ++ (encB l cs ++ more) := by simp [encB]
      have e2 : (fieldB c.toNat x ++ (encB l cs ++ more)).drop n = encB l cs ++ more := by rw [List.drop_append_of_le_length (by omega), List.drop_eq_nil_of_le (by omega), List.nil_append]
      have e3 : (fieldB c.toNat x ++ (encB l cs ++ more)).take n = fieldB c.toNat x := by rw [List.take_append_of_le_length (by omega), List.take_of_length_le (by omega)]
      rw [e1, decS, span_field h0 hn]
      simp only [e2, e3, cell_field h0 (hok x (by simp)) hn]
      rw [ih hk' (by simpa using hl) (fun y hy => hok y (by simp [hy])) hk2 more]
      by_cases hm : more = []
      · simp [hm, norms]
      · simp [hm]
theorem cut_field {c : Nat} {x : FC} {n cut : Nat} {rest : List UInt8} (h : sizeS c x = .ok n) : (cut < n ∧ (fieldB c x ++ rest).take cut = (fieldB c x).take cut) ∨ (n ≤ cut ∧ (fieldB c x ++ rest).take cut = fieldB c x ++ rest.take (cut - n)) := by
  have hlen := fieldB_length h
  rcases Nat.lt_or_ge cut n with hlt | hge
  · exact .inl ⟨hlt, List.take_append_of_le_length (by omega)⟩
  · refine .inr ⟨hge, ?_⟩
    rw [List.take_append, List.take_of_length_le (by omega), hlen]
theorem dec_cut {l : List UInt8} : ∀ {cs : List FC} {m cut : Nat}, kn l = true → cs.length = l.length → sumS l cs = .ok m → cut < (encB l cs).length →
    decS l ((encB l cs).take cut) = .error 1 ∧ (someS l ((encB l cs).take cut)).1 < l.length ∧ (someS l ((encB l cs).take cut)).2 = false := by
  induction l with
  | nil => intro cs m cut _ _ _ hc; simp [encB] at hc
  | cons c l ih =>
    intro cs m cut hk hl hs hc
    match cs, hl with
    | x :: cs, hl =>
      obtain ⟨n, k, hn, hk2, rfl⟩ := sumS_cons hs
      obtain ⟨h0, hk'⟩ := kn_cons hk
      have hlen := fieldB_length hn
      have e1 : encB (c :: l) (x :: cs) = fieldB c.toNat x ++ encB l cs := by simp [encB]
      rw [e1] at hc ⊢
      rw [List.length_append, hlen] at hc
      rcases cut_field (rest := encB l cs) (cut := cut) hn with ⟨hlt, e⟩ | ⟨hge, e⟩
      · rw [e]
        have hsp := span_cut h0 hn hlt
        refine ⟨by rw [decS, hsp], ?_, ?_⟩
        · rw [someS_err h0 hsp]; simp
        · rw [someS_err h0 hsp]
      · rw [e]
        have hsp := span_field h0 hn ((encB l cs).take (cut - n))
        have e2 : (fieldB c.toNat x ++ (encB l cs).take (cut - n)).drop n = (encB l cs).take (cut - n) := by rw [List.drop_append_of_le_length (by omega), List.drop_eq_nil_of_le (by omega), List.nil_append]
        obtain ⟨r1, r2, r3⟩ := ih (cut := cut - n) hk' (by simpa using hl) hk2 (by omega)
        refine ⟨?_, ?_, ?_⟩
        · rw [decS, hsp]
          simp only [e2, r1]
        · rw [someS_ok h0 hsp, e2]
          simp only [List.length_cons]
          omega
        · rw [someS_ok h0 hsp, e2]
          exact r3

theorem span_back {c : Nat} {bs : List UInt8} {n : Nat} (h0 : hd c ≠ 0) (hmax : bs.length ≤ maxLen) (h : spanS c bs = .ok n) :
    sizeS c (cellS c (bs.take n)) = .ok n ∧ fieldB c (cellS c (bs.take n)) = bs.take n ∧ (cellS c (bs.take n)).ok := by
  have hle := spanS_le h
  have hq := hd_cases h0
  have hg := great_lt hq
  have hmm : bs.length ≤ 9223372036854775807 := hmax
  have ht1 : (bs.take n).take (hd c) = bs.take (hd c) := by rw [List.take_take, Nat.min_eq_left hle.2]
  have hbl : (bs.take (hd c)).length = hd c := by rw [List.length_take]; omega
  have hnl := num_lt (bs.take (hd c))
  rw [hbl] at hnl
  have hbe : be (hd c) (num (bs.take (hd c))) = bs.take (hd c) := by have := be_num (bs.take (hd c)); rwa [hbl] at this
  have h64 : num (bs.take (hd c)) < 18446744073709551616 := num_lt64 _ (by rw [hbl]; omega)
  by_cases hf : c = 102
  · subst hf
    have hn : n = 8 := by
      rw [spanS_float (by omega) (by decide) rfl] at h
      injection h with h
      exact h.symm
    subst hn
    have e : cellS 102 (bs.take 8) = { f := num (bs.take 8) } := by rw [cellS, if_pos rfl, ht1]; rfl
    rw [e]
    refine ⟨by simp [sizeS, hd], ?_, ⟨by show (-9223372036854775808 : Int) ≤ 0; decide, by show (0 : Int) ≤ 9223372036854775807; decide, h64, Nat.zero_le _⟩⟩
    have : fieldB 102 { f := num (bs.take 8) } = be 8 (num (bs.take 8)) := by simp [fieldB, hd]
    rw [this]
    exact hbe
  · cases ht : isT c
    · have hn : n = hd c ∧ num (bs.take (hd c)) ≤ great (hd c) := by
        unfold spanS at h
        rw [if_neg (by omega), ht] at h
        simp only [Bool.false_eq_true, if_false] at h
        split at h
        · cases h
        · rename_i hh
          injection h with h
          exact ⟨h.symm, by rcases Nat.lt_or_ge (great (hd c)) (num (bs.take (hd c))) with g | g
                            · exact absurd ⟨hf, g⟩ hh
                            · exact g⟩
      obtain ⟨rfl, hgn⟩ := hn
      have hgl := great_le hq
      have e : cellS c (bs.take (hd c)) = { n := num (bs.take (hd c)) } := by rw [cellS, if_neg hf, ht, ht1]; rfl
      rw [e]
      refine ⟨?_, ?_, ⟨?_, ?_, ?_, Nat.zero_le _⟩⟩
      · rw [sizeS, if_neg hf, ht]
        simp only [Bool.false_eq_true, if_false]
        rw [if_neg (by omega)]
      · have : fieldB c { n := (num (bs.take (hd c)) : Int) } = be (hd c) (num (bs.take (hd c))) := by simp [fieldB, hf, ht]
        rw [this]
        exact hbe
      · show (-9223372036854775808 : Int) ≤ (num (bs.take (hd c)) : Int); omega
      · show (num (bs.take (hd c)) : Int) ≤ 9223372036854775807; omega
      · show 0 < 18446744073709551616; decide
    · obtain ⟨h12, hge⟩ := great_text_eq ht
      have hn : n = hd c + num (bs.take (hd c)) ∧ num (bs.take (hd c)) ≤ bs.length - hd c := by
        unfold spanS at h
        rw [if_neg (by omega), if_pos ht] at h
        split at h
        · cases h
        · injection h with h
          exact ⟨h.symm, by omega⟩
      obtain ⟨hn, hnb⟩ := hn
      have e : cellS c (bs.take n) = { s := ⟨((bs.take n).drop (hd c)).toArray⟩ } := by rw [cellS, if_neg hf, if_pos ht]
      have hsz : (⟨((bs.take n).drop (hd c)).toArray⟩ : ByteArray).size = num (bs.take (hd c)) := by
        show ((bs.take n).drop (hd c)).toArray.size = _
        simp
        omega
      rw [e]
      refine ⟨?_, ?_, ⟨by show (-9223372036854775808 : Int) ≤ 0; decide, by show (0 : Int) ≤ 9223372036854775807; decide, by show 0 < 18446744073709551616; decide, ?_⟩⟩
      · rw [sizeS, if_neg hf, if_pos ht]
        simp only [hsz]
        rw [if_neg (by omega), hn]
      · have e2 : fieldB c { s := ⟨((bs.take n).drop (hd c)).toArray⟩ } = be (hd c) (num (bs.take (hd c))) ++ (bs.take n).drop (hd c) := by
          rw [fieldB, if_neg hf, if_pos ht, hsz]
        rw [e2, hbe, ← ht1, List.take_append_drop]
      · rw [hsz]
        show _ ≤ 9223372036854775807
        omega
theorem enc_dec {l : List UInt8} : ∀ {bs : List UInt8} {cs : List FC}, kn l = true → bs.length ≤ maxLen → decS l bs = .ok cs → cs.length = l.length ∧ encB l cs = bs ∧ sumS l cs = .ok bs.length ∧ ∀ x ∈ cs, x.ok := by
  induction l with
  | nil =>
    intro bs cs _ _ h
    simp only [decS] at h
    split at h
    · rename_i hb; injection h with h; subst h; subst hb; exact ⟨rfl, rfl, rfl, by simp⟩
    · cases h
  | cons c l ih =>
    intro bs cs hk hm h
    obtain ⟨h0, hk'⟩ := kn_cons hk
    rw [decS] at h
    cases hs : spanS c.toNat bs with
    | error e => rw [hs] at h; cases h
    | ok n =>
      rw [hs] at h
      simp only at h
      cases hd2 : decS l (bs.drop n) with
      | error e => rw [hd2] at h; cases h
      | ok r =>
        rw [hd2] at h
        injection h with h
        subst h
        obtain ⟨g1, g2, g3⟩ := span_back h0 hm hs
        have hle := (spanS_le hs).1
        obtain ⟨i1, i2, i3, i4⟩ := ih hk' (by rw [List.length_drop]; unfold maxLen at *; omega) hd2
        refine ⟨by simp [i1], ?_, ?_, ?_⟩
        · simp only [encB, g2, i2, List.take_append_drop]
        · simp only [sumS, g1, i3, List.length_drop]
          congr 1
          omega
        · intro x hx
          rcases List.mem_cons.1 hx with rfl | hx
          · exact g3
          · exact i4 x hx
end Go.Proofs.YtcphfgiegpnpeaaDoor
