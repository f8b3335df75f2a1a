/- What fields.fieldSize answers: how many bytes a field has, or which error. -/
import Derived.Test.YtlmdafldggbiaaaDoorFCell
namespace Go.Proofs.YtlmdafldggbiaaaDoor.F
open Go.RowKit

/-- How many bytes a field has, or the error's number. -/
def sizeS (c : Nat) (x : FC) : Except Nat Nat :=
  if c = 102 then .ok (hd c)
  else if isT c = true then (if great (hd c) < x.s.size then .error 4 else .ok (hd c + x.s.size))
  else if x.n < 0 ∨ (great (hd c) : Int) < x.n then .error 3 else .ok (hd c)

theorem Errs.below {w w' : World} {E : Nat → Value} (h : Errs w E) {B : Nat} (hB : 20 ≤ B) (hb : Below B w w') : Errs w' E :=
  ⟨fun i hi => (hb.cell (p := ⟨pos i, 0, none⟩) (show pos i < B by have := pos_lt i; omega)).trans (h.cell i hi), h.some_⟩
/-- The three errors that Size and Encode may answer. -/
structure Errz (w : World) (E : Nat → Value) : Prop where
  cell : ∀ i, 2 ≤ i → i < 5 → w.cell? ⟨pos i, 0, none⟩ = some (E i)
  some_ : ∀ i, 2 ≤ i → i < 5 → ∃ t v, E i = .iface t v
theorem Errz.below {w w' : World} {E : Nat → Value} (h : Errz w E) {B : Nat} (hB : 20 ≤ B) (hb : Below B w w') : Errz w' E :=
  ⟨fun i h2 hi => (hb.cell (p := ⟨pos i, 0, none⟩) (show pos i < B by have := pos_lt i; omega)).trans (h.cell i h2 hi), h.some_⟩

theorem great_le {h : Nat} (hh : h = 1 ∨ h = 2 ∨ h = 4 ∨ h = 8) : great h ≤ 9223372036854775807 := by
  rcases hh with rfl | rfl | rfl | rfl <;> decide
theorem below_drewN {B : Nat} {a w : World} (h : Below B a w) (n : Nat) : Below B a (w.drewN n) := ⟨h.os, h.tape, h.output, h.size, h.block⟩

theorem great_text {c : Nat} (h : isT c = true) : great (hd c) ≤ 65535 := by
  unfold isT at h
  rcases of_decide_eq_true h with rfl | rfl <;> decide
theorem quietL {P : Program} {f : FuncId} {args : Array Value} {w : World} {n : Nat} {v : Value} (h : Calls P f args (w.drewN n) fun e w' => e = .returned v ∧ w.drewN n = w') :
    Calls P f args (w.drewN n) fun e w'' => e = .returned v ∧ ∃ m, w'' = w.drewN m := h.mono fun _ _ ⟨he, hm⟩ => ⟨he, n, hm.symm⟩
theorem u64_in {a : Int} (h0 : 0 ≤ a) (h1 : a < 18446744073709551616) : IntKind.u64.wrap a = a := by rw [IntKind.wrap_u64]; omega

set_option maxRecDepth 100000 in
set_option maxHeartbeats 400000 in
theorem fieldSize_any (E : Nat → Value) (c : Nat) (x : FC) (w : World) (hE : Errz w E) (h5 : 20 ≤ w.heap.size) (h0 : hd c ≠ 0) (hlo : -9223372036854775808 ≤ x.n) (hhi : x.n ≤ 9223372036854775807) (hs : x.s.size ≤ maxLen) :
    Calls Tryd.prog 44 #[.int .u8 (c : Int), x.v] w fun e w' => e = .returned (spanV E (sizeS c x)) ∧ Below w.heap.size w w' := by
  have hc3 : ∀ o : Obj, (w.alloc o).cell? ⟨1, 0, none⟩ = some (E 3) := fun o : Obj => (hE.below (Nat.le_refl 20) ((Below.refl _ _).alloc h5 o)).cell 3 (by omega) (by omega)
  have hc4 : ∀ o : Obj, (w.alloc o).cell? ⟨3, 0, none⟩ = some (E 4) := fun o : Obj => (hE.below (Nat.le_refl 20) ((Below.refl _ _).alloc h5 o)).cell 4 (by omega) (by omega)
  clear hE
  obtain ⟨xn, xf, xs⟩ := x
  simp only [FC.v] at *
  have hs' : xs.size ≤ 9223372036854775807 := hs
  clear hs
  have hq := hd_cases h0
  have hg := great_le hq
  generalize hS : sizeS c ⟨xn, xf, xs⟩ = S
  have HS := Lib.hid hS
  clear hS
  generalize hH : hd c = h at *
  have HH := Lib.hid hH
  clear hH
  generalize hG : great h = G at *
  have HG := Lib.hid hG
  clear hG
  go_enter Tryd.func44, Tryd.ntmps44
  go_wp2_with fail
  refine (headSize_any _ _).mono ?_
  rintro e w' ⟨rfl, rfl⟩
  rw [HH.out]
  by_cases hf : c = 102
  · have hf' : ((c : Int) == 102) = true := by simp [hf]
    have e : S = .ok h := by rw [← HS.out]; simp [sizeS, hf]; rw [← hf, HH.out]
    subst e
    clear HS
    go_wp2_with fail
    go_ret2
    exact ⟨rfl, (Below.refl _ _).alloc (Nat.le_refl _) _⟩
  · have hf' : ((c : Int) == 102) = false := by simp; omega
    go_wp2_with fail
    refine (isText_any _ _).mono ?_
    rintro e w' ⟨rfl, rfl⟩
    cases hT : isT c
    · have HT := Lib.hid hT
      clear hT
      by_cases hneg : xn < 0
      · have e : S = .error 3 := by rw [← HS.out]; simp [sizeS, hf, HT.out, hneg]
        subst e
        clear HS
        have hd1 : decide (xn < 0) = true := by simpa using hneg
        go_wp2_with fail
        go_quiet (fail)
        go_wp2_with fail
        go_quiet (fail)
        go_wp2_with fail
        go_ret2
        exact ⟨rfl, below_drewN (below_drewN ((Below.refl _ _).alloc (Nat.le_refl _) _) _) _⟩
      · have hd1 : decide (xn < 0) = false := by simpa using hneg
        have hw := u64_in (a := xn) (by omega) (by omega)
        have hgr := fun w => greatest_any h w hq
        rw [HG.out] at hgr
        have HGR := Lib.hid hgr
        clear hgr
        by_cases hm : (G : Int) < xn
        · have e : S = .error 3 := by rw [← HS.out]; simp [sizeS, hf, HT.out, HH.out, HG.out, hm]
          subst e
          clear HS
          go_wp2_with fail
          go_quiet ((go_at_call 59; exact quietL (HGR.out _)))
          go_wp2_with fail
          go_quiet (fail)
          go_wp2_with fail
          go_ret2
          exact ⟨rfl, below_drewN (below_drewN ((Below.refl _ _).alloc (Nat.le_refl _) _) _) _⟩
        · have e : S = .ok h := by rw [← HS.out]; simp [sizeS, hf, HT.out, HH.out, HG.out, hm, hneg]
          subst e
          clear HS
          go_wp2_with fail
          go_quiet ((go_at_call 59; exact quietL (HGR.out _)))
          go_wp2_with fail
          go_ret2
          exact ⟨rfl, below_drewN ((Below.refl _ _).alloc (Nat.le_refl _) _) _⟩
    · have HT := Lib.hid hT
      clear hT
      have hw := u64_in (a := (xs.size : Int)) (by omega) (by omega)
      have hG2 : G ≤ 65535 := by have := great_text HT.out; rwa [HH.out, HG.out] at this
      have hgr := fun w => greatest_any h w hq
      rw [HG.out] at hgr
      have HGR := Lib.hid hgr
      clear hgr
      by_cases hm : G < xs.size
      · have e : S = .error 4 := by rw [← HS.out]; simp [sizeS, hf, HT.out, HH.out, HG.out, hm]
        subst e
        clear HS
        go_wp2_with fail
        go_quiet ((go_at_call 59; exact quietL (HGR.out _)))
        go_wp2_with fail
        go_quiet (fail)
        go_wp2_with fail
        go_ret2
        exact ⟨rfl, below_drewN (below_drewN ((Below.refl _ _).alloc (Nat.le_refl _) _) _) _⟩
      · have e : S = .ok (h + xs.size) := by rw [← HS.out]; simp [sizeS, hf, HT.out, HH.out, HG.out, hm]
        subst e
        clear HS
        go_wp2_with fail
        go_quiet ((go_at_call 59; exact quietL (HGR.out _)))
        go_wp2_with fail
        go_ret2
        exact ⟨by simp [spanV], below_drewN ((Below.refl _ _).alloc (Nat.le_refl _) _) _⟩
end Go.Proofs.YtlmdafldggbiaaaDoor.F
