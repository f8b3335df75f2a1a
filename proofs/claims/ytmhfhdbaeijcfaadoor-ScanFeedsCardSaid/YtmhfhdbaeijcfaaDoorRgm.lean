/- Plain mathematics: the frame of bytes as the document's Get has it. No program, no memory. -/
import Derived.Test.YtmhfhdbaeijcfaaDoorGE
namespace Go.Proofs.YtmhfhdbaeijcfaaDoor
open Go.RowKit
open Go.Proofs.YtmhfhdbaeijcfaaDoor.H

/-- The bytes that the check covers. -/
def covB (bs : List UInt8) : List UInt8 := bs.take (bs.length - 4)
theorem getB_span {bs : List UInt8} (h : ¬ (7 ≤ bs.length ∧ bs.length ≤ 1024)) : getB bs = none := by
  unfold getB
  rw [if_neg (fun ⟨a, b, _⟩ => h ⟨a, b⟩)]
theorem seal_iff (bs : List UInt8) (_h4 : 4 ≤ bs.length) : sealB (covB bs) = bs ↔ (digest (covB bs)).take 4 = bs.drop (bs.length - 4) := by
  unfold sealB
  have e : covB bs ++ bs.drop (bs.length - 4) = bs := List.take_append_drop _ _
  constructor
  · intro h
    have h2 : covB bs ++ (digest (covB bs)).take 4 = covB bs ++ bs.drop (bs.length - 4) := h.trans e.symm
    exact List.append_cancel_left h2
  · intro h
    rw [h, e]
theorem getB_seal {bs : List UInt8} (h4 : 4 ≤ bs.length) (h : (digest (covB bs)).take 4 ≠ bs.drop (bs.length - 4)) : getB bs = none := by
  unfold getB
  rw [if_neg (fun ⟨_, _, c⟩ => h ((seal_iff bs h4).1 c))]
theorem decS_head (k : Int) (x y z : UInt8) (r : List UInt8) :
    F.decS (layS k) (x :: y :: z :: r) = match F.decS (layL k) r with
      | .error e => .error e
      | .ok cs => .ok ({ n := (F.num [x, y] : Int) } :: { n := (F.num [z] : Int) } :: cs) := by
  have e : layS k = 104 :: 98 :: layL k := rfl
  have s1 : F.spanS (104 : UInt8).toNat (x :: y :: z :: r) = .ok 2 := by
    have hh : F.hd (104 : UInt8).toNat = 2 := rfl
    have hi : F.isT (104 : UInt8).toNat = false := rfl
    have hg : F.great 2 = 65535 := rfl
    unfold F.spanS
    rw [hh, hi, hg, if_neg (by simp), if_neg (by simp), if_neg]
    rintro ⟨_, h⟩
    have : F.num ((x :: y :: z :: r).take 2) < 65536 := num_two x y
    omega
  have s2 : F.spanS (98 : UInt8).toNat (z :: r) = .ok 1 := by
    have hh : F.hd (98 : UInt8).toNat = 1 := rfl
    have hi : F.isT (98 : UInt8).toNat = false := rfl
    have hg : F.great 1 = 255 := rfl
    unfold F.spanS
    rw [hh, hi, hg, if_neg (by simp), if_neg (by simp), if_neg]
    rintro ⟨_, h⟩
    have : F.num ((z :: r).take 1) < 256 := num_one z
    omega
  rw [e, F.decS, s1]
  show (match F.decS (98 :: layL k) (z :: r) with | .error k => (Except.error k : Except Nat (List F.FC)) | .ok r' => .ok (F.cellS 104 [x, y] :: r')) = _
  rw [F.decS, s2]
  show (match (match F.decS (layL k) r with | .error k => (Except.error k : Except Nat (List F.FC)) | .ok r' => .ok (F.cellS 98 [z] :: r')) with | .error k => (Except.error k : Except Nat (List F.FC)) | .ok r' => .ok (F.cellS 104 [x, y] :: r')) = _
  cases F.decS (layL k) r <;> rfl
where
  num_two : ∀ (x y : UInt8), F.num [x, y] < 65536 := fun x y => by
    have h1 := x.toNat_lt
    have h2 := y.toNat_lt
    simp [F.num]
    omega
  num_one : ∀ (z : UInt8), F.num [z] < 256 := fun z => by
    have h1 := z.toNat_lt
    simp [F.num]
    omega
/-- What bytes of a right check and length hold. -/
theorem getB_open {bs : List UInt8} (h7 : 7 ≤ bs.length) (h1024 : bs.length ≤ 1024) (hs : (digest (covB bs)).take 4 = bs.drop (bs.length - 4)) :
    getB bs = goodF (match F.decS (layL (kindOf bs)) ((covB bs).drop 3) with
      | .error _ => none
      | .ok cs => if 256 * ((bs.getD 0 0).toNat : Int) + ((bs.getD 1 0).toNat : Int) = ((bs.length - 4 : Nat) : Int) - 2 then some (fill (zf (kindOf bs)) (used (kindOf bs)) cs) else none) := by
  have hl : (covB bs).length = bs.length - 4 := by unfold covB; rw [List.length_take]; omega
  unfold getB
  rw [if_pos ⟨h7, h1024, (seal_iff bs (by omega)).2 hs⟩]
  show goodF (openB (covB bs)) = _
  obtain ⟨x, y, z, r, hr⟩ : ∃ x y z r, bs = x :: y :: z :: r := by
    rcases bs with _ | ⟨x, _ | ⟨y, _ | ⟨z, r⟩⟩⟩
    · simp at h7
    · simp at h7
    · simp at h7
    · exact ⟨x, y, z, r, rfl⟩
  have hc : covB bs = x :: y :: z :: r.take (bs.length - 7) := by
    unfold covB
    have e : bs.length - 4 = (bs.length - 7) + 3 := by omega
    rw [e, hr]
    simp
  have hk : kindOf (covB bs) = kindOf bs := by rw [hc, hr]; rfl
  congr 1
  unfold openB
  rw [hk, hl]
  rw [hc, decS_head]
  have e3 : (x :: y :: z :: r.take (bs.length - 7)).drop 3 = r.take (bs.length - 7) := rfl
  rw [e3]
  cases F.decS (layL (kindOf bs)) (r.take (bs.length - 7)) with
  | error e => rfl
  | ok cs =>
    simp only
    have en : (F.num [x, y] : Int) = 256 * ((bs.getD 0 0).toNat : Int) + ((bs.getD 1 0).toNat : Int) := by
      rw [hr]
      simp [F.num]
    rw [en]
theorem getB_short {bs : List UInt8} (h7 : 7 ≤ bs.length) (h : 256 * ((bs.getD 0 0).toNat : Int) + ((bs.getD 1 0).toNat : Int) ≠ ((bs.length - 4 : Nat) : Int) - 2) : getB bs = none := by
  rcases Nat.lt_or_ge 1024 bs.length with h1 | h1
  · exact getB_span (by omega)
  · by_cases hs : (digest (covB bs)).take 4 = bs.drop (bs.length - 4)
    · rw [getB_open h7 h1 hs]
      cases F.decS (layL (kindOf bs)) ((covB bs).drop 3) with
      | error e => rfl
      | ok cs => simp only; rw [if_neg h]; rfl
    · exact getB_seal (by omega) hs
theorem getB_nokind {bs : List UInt8} (h7 : 7 ≤ bs.length) (h : used (kindOf bs) = []) : getB bs = none := by
  cases hg : getB bs with
  | none => rfl
  | some f =>
    obtain ⟨h1, h2, h3, h4, h5, h6⟩ := getB_some hg
    have hk : kindOf bs = f.kind := by
      have e1 := kindOf_cov h1
      rw [← h4]
      unfold putB
      have hc := cov_length f h1
      have ht := total_le f h1
      have : kindOf (cov f ++ (digest (cov f)).take 4) = kindOf (cov f) := by
        unfold kindOf
        rw [List.getD_eq_getElem?_getD, List.getD_eq_getElem?_getD, List.getElem?_append_left]
        have hl := putB_length f h1
        rw [h4] at hl
        omega
      rw [this, e1]
    rw [hk] at h
    exact absurd h (valid_used h1)
theorem getB_left {bs : List UInt8} {e : Nat} (h7 : 7 ≤ bs.length) (h : F.decS (layL (kindOf bs)) ((covB bs).drop 3) = .error e) : getB bs = none := by
  rcases Nat.lt_or_ge 1024 bs.length with h1 | h1
  · exact getB_span (by omega)
  · by_cases hs : (digest (covB bs)).take 4 = bs.drop (bs.length - 4)
    · rw [getB_open h7 h1 hs, h]; rfl
    · exact getB_seal (by omega) hs
theorem getB_form {bs : List UInt8} {cs : List F.FC} (h7 : 7 ≤ bs.length) (h1024 : bs.length ≤ 1024) (hs : (digest (covB bs)).take 4 = bs.drop (bs.length - 4))
    (hl : 256 * ((bs.getD 0 0).toNat : Int) + ((bs.getD 1 0).toNat : Int) = ((bs.length - 4 : Nat) : Int) - 2) (h : F.decS (layL (kindOf bs)) ((covB bs).drop 3) = .ok cs) :
    getB bs = if valid (fill (zf (kindOf bs)) (used (kindOf bs)) cs) = true then some (fill (zf (kindOf bs)) (used (kindOf bs)) cs) else none := by
  rw [getB_open h7 h1024 hs, h]
  simp only
  rw [if_pos hl]
  rfl
end Go.Proofs.YtmhfhdbaeijcfaaDoor
