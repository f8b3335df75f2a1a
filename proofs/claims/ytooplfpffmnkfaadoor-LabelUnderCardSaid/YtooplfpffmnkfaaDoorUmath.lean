/- The mathematics of the names that the law LabelUnder lays. -/
import Derived.Test.YtooplfpffmnkfaaDoorOmath
import Derived.Test.YtooplfpffmnkfaaDoorBesw
namespace Go.Proofs.YtooplfpffmnkfaaDoor
open Go.RowKit
open Go.Lib (hasPrefix hasSuffix trimPrefix)

theorem pick_label {c : UInt8} (hc : c = 97 ∨ c = 98) : labelB [c] = true := by rcases hc with rfl | rfl <;> decide +kernel
theorem pick_name {c : UInt8} {x : List UInt8} (hc : c = 97 ∨ c = 98) (hx : nameB x = true) (h7 : (cutD x).length ≤ 7) (hl : x.length ≤ 61) : nameB ([c] ++ 46 :: x) = true := by
  have h46 : cutD [c] = [[c]] := cutD_none [c] (by rcases hc with rfl | rfl <;> decide)
  have ha := name_all hx
  simp only [nameB, cutD_app, h46]
  rw [decide_eq_true (by simp; omega), decide_eq_true (by simp; omega)]
  simp only [Bool.true_and, List.all_append, List.all_cons, List.all_nil, pick_label hc, Bool.and_true]
  rw [List.all_eq_true]
  exact ha
/-- Where the one isn't under the other, there is a name that the one fits and the other doesn't. -/
theorem under_witness {p q : List UInt8} (hp : patB p = true) (hq : patB q = true) (hu : underB p q = false) :
    (nameB p = true ∧ fitsB p p = true ∧ fitsB q p = false) ∨
    ∃ x c, p = 42 :: 46 :: x ∧ nameB x = true ∧ x.length ≤ 61 ∧ (c = 97 ∨ c = 98) ∧ fitsB p ([c] ++ 46 :: x) = true ∧ fitsB q ([c] ++ 46 :: x) = false := by
  have hv : voidB p = false ∧ covB q p = false := by
    simpa [underB, hp, hq] using hu
  rcases pat_cases hp with hn | ⟨x, rfl, hx, hl⟩
  · refine .inl ⟨hn, ?_, ?_⟩
    · simp [fitsB, hp, hn, cov_name hn]
    · simp [fitsB, hv.2]
  · have h8 := name_pieces hx
    have h7 : (cutD x).length ≤ 7 := by
      have := hv.1
      rw [void_wild, decide_eq_false_iff_not] at this
      omega
    have hfit : ∀ c, (c = 97 ∨ c = 98) → fitsB (42 :: 46 :: x) ([c] ++ 46 :: x) = true := fun c hc => by
      have h1 : covB (42 :: 46 :: x) ([c] ++ 46 :: x) = true := by rw [cov_wild, suffix_iff]; exact List.suffix_append _ _
      simp only [fitsB, hp, pick_name hc hx h7 hl, h1, Bool.and_true]
    rcases pat_cases hq with hn | ⟨y, rfl, hy, hly⟩
    · by_cases he : q = [97] ++ 46 :: x
      · refine .inr ⟨x, 98, rfl, hx, hl, .inr rfl, hfit 98 (.inr rfl), ?_⟩
        rw [fitsB, cov_name hn, he]
        simp
      · refine .inr ⟨x, 97, rfl, hx, hl, .inl rfl, hfit 97 (.inl rfl), ?_⟩
        rw [fitsB, cov_name hn, beq_eq_false_iff_ne.2 he]
        simp
    · refine .inr ⟨x, 97, rfl, hx, hl, .inl rfl, hfit 97 (.inl rfl), ?_⟩
      have h1 : covB (42 :: 46 :: y) ([97] ++ 46 :: x) = false := by
        rw [Bool.eq_false_iff, cov_wild, ne_eq, suffix_iff]
        intro h
        have h2 := hv.2
        rw [Bool.eq_false_iff, cov_wild, ne_eq, suffix_iff, suffix_star] at h2
        rcases List.suffix_cons_iff.1 h with h | h
        · injection h with h3 _
          exact absurd h3 (by decide)
        · exact h2 h
      rw [fitsB, h1]
      simp
def allK (p q : List UInt8) (L : List ByteArray) (k : Nat) : Bool := (L.take k).all fun n => !fitsB p n.data.toList || fitsB q n.data.toList
def someK (p : List UInt8) (L : List ByteArray) (k : Nat) : Bool := (L.take k).any fun n => fitsB p n.data.toList
theorem allK_succ {p q : List UInt8} {L : List ByteArray} {k : Nat} (h : k < L.length) : allK p q L (k + 1) = (allK p q L k && (!fitsB p L[k].data.toList || fitsB q L[k].data.toList)) := by
  unfold allK
  rw [List.take_succ_eq_append_getElem h, List.all_append]
  simp
theorem someK_succ {p : List UInt8} {L : List ByteArray} {k : Nat} (h : k < L.length) : someK p L (k + 1) = (someK p L k || fitsB p L[k].data.toList) := by
  unfold someK
  rw [List.take_succ_eq_append_getElem h, List.any_append]
  simp
theorem allK_under {p q : List UInt8} (hu : underB p q = true) (L : List ByteArray) (k : Nat) : allK p q L k = true := by
  unfold allK
  rw [List.all_eq_true]
  intro n _
  cases hf : fitsB p n.data.toList with
  | false => rfl
  | true => rw [under_fits hu hf]; rfl
theorem allK_wit {p q : List UInt8} {L : List ByteArray} {n : ByteArray} (hm : n ∈ L) (h1 : fitsB p n.data.toList = true) (h2 : fitsB q n.data.toList = false) : allK p q L L.length = false ∧ someK p L L.length = true := by
  unfold allK someK
  rw [List.take_length]
  constructor
  · rw [List.all_eq_false]
    exact ⟨n, hm, by rw [h1, h2]; simp⟩
  · rw [List.any_eq_true]
    exact ⟨n, hm, h1⟩
/-- The names that the law lays out of the beginnings hs. -/
def namesOf (t : ByteArray) (hs : List ByteArray) : List ByteArray := (hs.filter fun h => decide (h.size < 100)).map fun h => h ++ ⟨#[46]⟩ ++ t
theorem namesOf_take {t : ByteArray} {hs : List ByteArray} {k : Nat} (h : k < hs.length) : namesOf t (hs.take (k + 1)) = if hs[k].size < 100 then namesOf t (hs.take k) ++ [hs[k] ++ ⟨#[46]⟩ ++ t] else namesOf t (hs.take k) := by
  unfold namesOf
  rw [List.take_succ_eq_append_getElem h, List.filter_append]
  split
  · rename_i h1
    simp [h1]
  · rename_i h1
    simp [h1]
theorem namesOf_length (t : ByteArray) (hs : List ByteArray) : (namesOf t hs).length ≤ hs.length := by
  unfold namesOf
  rw [List.length_map]
  exact List.length_filter_le _ _
theorem namesOf_mem {t : ByteArray} {hs : List ByteArray} {h : ByteArray} (hm : h ∈ hs) (hz : h.size < 100) : h ++ ⟨#[46]⟩ ++ t ∈ namesOf t hs :=
  List.mem_map.2 ⟨h, List.mem_filter.2 ⟨hm, by simpa using hz⟩, rfl⟩
theorem namesOf_size {t : ByteArray} {hs : List ByteArray} : ∀ x ∈ namesOf t hs, x.size ≤ 101 + t.size := by
  intro x hx
  obtain ⟨h, hm, rfl⟩ := List.mem_map.1 hx
  have h1 := (List.mem_filter.1 hm).2
  simp at h1
  rw [ByteArray.size_append, ByteArray.size_append]
  have : (⟨#[46]⟩ : ByteArray).size = 1 := rfl
  omega
theorem long_bytesU (h n : ByteArray) : (h ++ ⟨#[46]⟩ ++ n : ByteArray).data.toList = h.data.toList ++ 46 :: n.data.toList := by
  rw [ByteArray.data_append, Array.toList_append, ByteArray.data_append, Array.toList_append, List.append_assoc]; rfl
/-- The beginnings: those that came, and three more. -/
def headsOf (hs : List ByteArray) : List ByteArray := hs ++ [⟨#[97]⟩, ⟨#[98]⟩, ⟨#[48]⟩]
theorem wit_names {p q : List UInt8} {t : ByteArray} (hs : List ByteArray) {x : List UInt8} {c : UInt8} (ht : t.data.toList = x) (hc : c = 97 ∨ c = 98) (h1 : fitsB p ([c] ++ 46 :: x) = true) (h2 : fitsB q ([c] ++ 46 :: x) = false) :
    allK p q (namesOf t (headsOf hs)) (namesOf t (headsOf hs)).length = false ∧ someK p (namesOf t (headsOf hs)) (namesOf t (headsOf hs)).length = true := by
  have hm : (⟨#[c]⟩ : ByteArray) ∈ headsOf hs := by rcases hc with rfl | rfl <;> simp [headsOf]
  refine allK_wit (namesOf_mem (t := t) hm (by show 1 < 100; decide)) ?_ ?_
  · rw [long_bytesU, ht]; exact h1
  · rw [long_bytesU, ht]; exact h2
/-- A row that an append to another leaves as it was. -/
theorem rd_grown {w w' : World} {g : Nat} {xs : List Value} {row : Option Nat} (h : Rd w w.heap.size (some ⟨g, 0, none⟩) xs) (hg : w.grownBy w' row) (hne : row ≠ some g) : Rd w' w'.heap.size (some ⟨g, 0, none⟩) xs := by
  rcases h with h | ⟨ad, e, h1, h2⟩
  · exact .inl h
  · injection e with e
    subst e
    refine .inr ⟨_, rfl, Nat.lt_of_lt_of_le h1 hg.size, fun j u hj => (cell_block ?_).trans (h2 j u hj)⟩
    have eb : ((⟨g, 0, none⟩ : Addr).add j).block = g := by unfold Addr.add; split <;> rfl
    rw [eb]
    exact hg.block g h1 (fun e => hne e.symm)
end Go.Proofs.YtooplfpffmnkfaaDoor
