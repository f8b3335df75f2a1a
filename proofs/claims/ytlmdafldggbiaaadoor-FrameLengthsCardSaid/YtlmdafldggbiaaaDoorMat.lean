/- A valid frame's cells fit its layout; its bytes. -/
import Derived.Test.YtlmdafldggbiaaaDoorCel
namespace Go.Proofs.YtlmdafldggbiaaaDoor
open Go.RowKit
open Go.Proofs.YtlmdafldggbiaaaDoor.H

/-- How many bytes a field has. -/
def wid (f : Fr) (x : Nat) : Nat :=
  if x = 0 ∨ x = 1 ∨ x = 7 then 8 else if x = 2 ∨ x = 3 then 4 else if x = 4 then 1 else if x = 5 then 1 + f.who.size else if x = 6 then 1 + f.name.size else 2 + f.bs.length
/-- A field within its bounds. -/
def within (f : Fr) (x : Nat) : Prop := lo f.kind x ≤ ext f x ∧ ext f x ≤ hi f.kind x
theorem blo_pos (k : Int) : 0 ≤ blo k := by unfold blo; split; omega; split <;> omega
theorem bhi_le (k : Int) : bhi k ≤ 512 := by unfold bhi; split <;> omega
theorem valid_within {f : Fr} (h : valid f = true) : ∀ x ∈ used f.kind, within f x := fun x hx => by
  unfold valid at h
  simp at h
  have h2 := h.2 x (used_lt _ x hx)
  unfold fits least most at h2
  simp [hx] at h2
  exact h2
theorem sizeS_num {c : Nat} {x : F.FC} (h1 : c ≠ 102) (h2 : F.isT c = false) (h3 : 0 ≤ x.n) (h4 : x.n ≤ (F.great (F.hd c) : Int)) : F.sizeS c x = .ok (F.hd c) := by
  unfold F.sizeS
  rw [if_neg h1, h2]
  simp
  omega
theorem sizeS_text {c : Nat} {x : F.FC} (h1 : c ≠ 102) (h2 : F.isT c = true) (h3 : x.s.size ≤ F.great (F.hd c)) : F.sizeS c x = .ok (F.hd c + x.s.size) := by
  unfold F.sizeS
  rw [if_neg h1, h2]
  simp
  omega
theorem sizeS_wid (f : Fr) (x : Nat) (hx : x < 9) (h : within f x) : F.sizeS (letter x).toNat (cellF f x) = .ok (wid f x) := by
  obtain ⟨h1, h2⟩ := h
  rcases ext_nine x hx with rfl | rfl | rfl | rfl | rfl | rfl | rfl | rfl | rfl
  · exact sizeS_num (c := 113) (x := { n := ext f 0 }) (by decide) rfl (by simp [lo] at h1; show 0 ≤ ext f 0; omega) (by simp [hi] at h2; show ext f 0 ≤ 9223372036854775807; omega)
  · exact sizeS_num (c := 113) (x := { n := ext f 1 }) (by decide) rfl (by simp [lo] at h1; show 0 ≤ ext f 1; omega) (by simp [hi] at h2; show ext f 1 ≤ 9223372036854775807; omega)
  · exact sizeS_num (c := 119) (x := { n := ext f 2 }) (by decide) rfl (by simp [lo] at h1; show 0 ≤ ext f 2; omega) (by simp [hi] at h2; show ext f 2 ≤ 4294967295; omega)
  · exact sizeS_num (c := 119) (x := { n := ext f 3 }) (by decide) rfl (by simp [lo] at h1; show 0 ≤ ext f 3; omega) (by simp [hi] at h2; show ext f 3 ≤ 4294967295; omega)
  · exact sizeS_num (c := 98) (x := { n := ext f 4 }) (by decide) rfl (by simp [lo] at h1; show 0 ≤ ext f 4; omega) (by simp [hi] at h2; show ext f 4 ≤ 255; omega)
  · exact sizeS_text (c := 116) (x := { s := f.who }) (by decide) rfl (by simp [hi, ext] at h2; show f.who.size ≤ 255; omega)
  · exact sizeS_text (c := 116) (x := { s := f.name }) (by decide) rfl (by simp [hi, ext] at h2; show f.name.size ≤ 255; omega)
  · rfl
  · have h3 := bhi_le f.kind
    exact sizeS_text (c := 114) (x := { s := ⟨f.bs.toArray⟩ }) (by decide) rfl (by simp [hi, ext] at h2; show f.bs.toArray.size ≤ 65535; simp; omega)
theorem hd_letter (x : Nat) : F.hd (letter x).toNat ≠ 0 := by
  unfold letter
  repeat' split
  all_goals decide
theorem sumS_fields (f : Fr) : ∀ L : List Nat, (∀ x ∈ L, x < 9 ∧ within f x) → F.sumS (L.map letter) (L.map (cellF f)) = .ok (L.map (wid f)).sum
  | [], _ => rfl
  | x :: L, h => by
    have h1 := sizeS_wid f x (h x (by simp)).1 (h x (by simp)).2
    have h2 := sumS_fields f L (fun y hy => h y (by simp [hy]))
    simp only [List.map_cons, F.sumS, h1, h2, List.sum_cons]
/-- How many bytes a frame has ahead of its check. -/
def total (f : Fr) : Nat := 3 + ((used f.kind).map (wid f)).sum
def layS (k : Int) : List UInt8 := [104, 98] ++ layL k
def cellsP (f : Fr) (t : Int) : List F.FC := [{ n := t }, { n := f.kind }] ++ (used f.kind).map (cellF f)
theorem used_kind (k : Int) (h : used k ≠ []) : 1 ≤ k ∧ k ≤ 17 := by
  rcases kinds_or k with h1 | h1
  · omega
  · exact absurd (used_none k h1) h
theorem valid_used {f : Fr} (h : valid f = true) : used f.kind ≠ [] := by
  unfold valid at h
  simp at h
  exact h.1
theorem kn_layS (k : Int) : F.kn (layS k) = true := by
  unfold F.kn layS layL
  simp
  exact ⟨by decide, by decide, fun x _ => hd_letter x⟩
theorem sumS_frame (f : Fr) (t : Int) (h : valid f = true) (h0 : 0 ≤ t) (h1 : t ≤ 65535) : F.sumS (layS f.kind) (cellsP f t) = .ok (total f) := by
  have hk := used_kind _ (valid_used h)
  have h2 := sumS_fields f (used f.kind) (fun x hx => ⟨used_lt _ x hx, valid_within h x hx⟩)
  have e1 : F.sizeS (104 : UInt8).toNat { n := t } = .ok 2 := sizeS_num (by decide) rfl h0 (by show t ≤ 65535; exact h1)
  have e2 : F.sizeS (98 : UInt8).toNat { n := f.kind } = .ok 1 := sizeS_num (by decide) rfl (by show 0 ≤ f.kind; omega) (by show f.kind ≤ 255; omega)
  have h3 : F.sumS (98 :: layL f.kind) ({ n := f.kind } :: (used f.kind).map (cellF f)) = .ok (1 + ((used f.kind).map (wid f)).sum) := by
    have h2' : F.sumS (layL f.kind) ((used f.kind).map (cellF f)) = .ok ((used f.kind).map (wid f)).sum := h2
    rw [F.sumS, e2, h2']
  show F.sumS (104 :: 98 :: layL f.kind) ({ n := t } :: { n := f.kind } :: (used f.kind).map (cellF f)) = _
  rw [F.sumS, e1, h3]
  show Except.ok (2 + (1 + ((used f.kind).map (wid f)).sum)) = _
  rw [← Nat.add_assoc]
  rfl
theorem wid_le (f : Fr) (x : Nat) (hx : x < 9) (h : within f x) : wid f x ≤ 514 := by
  have h3 := bhi_le f.kind
  obtain ⟨_, h2⟩ := h
  rcases ext_nine x hx with rfl | rfl | rfl | rfl | rfl | rfl | rfl | rfl | rfl <;> simp [wid, hi, ext] at h2 ⊢ <;> omega
theorem sum_le (f : Fr) : ∀ L : List Nat, (∀ x ∈ L, wid f x ≤ 514) → (L.map (wid f)).sum ≤ 514 * L.length
  | [], _ => by simp
  | x :: L, h => by
    have h1 := h x (by simp)
    have h2 := sum_le f L (fun y hy => h y (by simp [hy]))
    simp only [List.map_cons, List.sum_cons, List.length_cons]
    omega
theorem total_le (f : Fr) (h : valid f = true) : 3 ≤ total f ∧ total f ≤ 4629 := by
  have h1 := sum_le f (used f.kind) (fun x hx => wid_le f x (used_lt _ x hx) (valid_within h x hx))
  have h2 := used_len f.kind
  unfold total
  omega
/-- A frame's bytes ahead of its check; with the check. -/
def cov (f : Fr) : List UInt8 := F.encB (layS f.kind) (cellsP f ((total f : Int) - 2))
def putB (f : Fr) : List UInt8 := cov f ++ (digest (cov f)).take 4
theorem cov_length (f : Fr) (h : valid f = true) : (cov f).length = total f := by
  have h1 := total_le f h
  exact F.encB_length (sumS_frame f _ h (by omega) (by omega))
theorem putB_length (f : Fr) (h : valid f = true) : (putB f).length = total f + 4 := by
  unfold putB
  rw [List.length_append, cov_length f h, List.length_take, digest_length]
  omega
end Go.Proofs.YtlmdafldggbiaaaDoor
