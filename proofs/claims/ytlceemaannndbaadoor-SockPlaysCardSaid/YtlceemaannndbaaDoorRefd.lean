/- What the document's pair's functions answer and do. -/
import Derived.Test.YtlceemaannndbaaDoorRef
namespace Go.Proofs.YtlceemaannndbaaDoor
open Go.RowKit

def Rp.flight (P : Rp) (i : Nat) : Nat := if P.cut then 0 else (P.ws i).all.length - (P.ws i).car
set_option maxHeartbeats 1000000 in
theorem rflight_any {B : Nat} {F : Nat → Prop} {P : Rp} (g i : Nat) (w : World) (h : RefAt w B F g P) (hi : i < 2) :
    Calls Tryd.prog 26 #[.pointer (some ⟨g, 0, none⟩), .int .i64 (i : Int)] w fun x w' => x = .returned (.int .i64 (P.flight i : Int)) ∧ ∃ n, w' = w.drewN n := by
  obtain ⟨v, h, hok⟩ := h
  obtain ⟨A, cap, _, h1, h2, c0, c1, c2, c3⟩ := h.at hi
  have cc := h.cut
  have k1 := hok.rd i
  have k2 := hok.car i
  have k5 := hok.big i
  clear h hok
  cases hc : P.cut
  · rw [hc] at cc
    have HF : Hid ((P.flight i : Int) = ((P.ws i).all.length : Int) - ((P.ws i).car : Int)) := Lib.hid (by simp [Rp.flight, hc]; omega)
    clear hc
    go_enter Tryd.func26, Tryd.ntmps26
    go_wp2_with (first
      | (go_at_call 33; (with_reducible refine (rend_true _ hi _).mono ?_); rintro x w' ⟨rfl, rfl⟩))
    go_quiet (fail)
    go_wp2_with fail
    go_ret
    exact ⟨ret_int HF.out.symm, _, rfl⟩
  · rw [hc] at cc
    have HF : Hid (P.flight i = 0) := Lib.hid (by simp [Rp.flight, hc])
    clear hc
    go_enter Tryd.func26, Tryd.ntmps26
    go_wp2_with (first
      | (go_at_call 33; (with_reducible refine (rend_true _ hi _).mono ?_); rintro x w' ⟨rfl, rfl⟩))
    go_ret
    exact ⟨by rw [HF.out]; rfl, 0, rfl⟩
def Rp.inbox (P : Rp) (i : Nat) : Nat := (P.ws (1 - i)).car - (P.ws (1 - i)).rd
set_option maxHeartbeats 1000000 in
theorem rinbox_any {B : Nat} {F : Nat → Prop} {P : Rp} (g i : Nat) (w : World) (h : RefAt w B F g P) (hi : i < 2) :
    Calls Tryd.prog 28 #[.pointer (some ⟨g, 0, none⟩), .int .i64 (i : Int)] w fun x w' => x = .returned (.int .i64 (P.inbox i : Int)) ∧ ∃ n, w' = w.drewN n := by
  obtain ⟨j, hj⟩ : ∃ j, j = 1 - i := ⟨_, rfl⟩
  obtain ⟨v, h, hok⟩ := h
  obtain ⟨A, cap, _, h1, h2, c0, c1, c2, c3⟩ := h.at (i := j) (by omega)
  have k1 := hok.rd j
  have k2 := hok.car j
  have k5 := hok.big j
  have HF : Hid ((P.inbox i : Int) = ((P.ws j).car : Int) - ((P.ws j).rd : Int)) := Lib.hid (by rw [Rp.inbox, ← hj]; omega)
  clear h hok
  rcases (by omega : i = 0 ∧ j = 1 ∨ i = 1 ∧ j = 0) with ⟨rfl, rfl⟩ | ⟨rfl, rfl⟩
  all_goals
    clear hj
    go_enter Tryd.func28, Tryd.ntmps28
    go_wp2_with (first
      | (go_at_call 33; (with_reducible refine (rend_any _ _).mono ?_); rintro x w' ⟨rfl, rfl⟩))
    go_quiet (fail)
    go_wp2_with fail
    go_ret
    exact ⟨ret_int HF.out.symm, _, rfl⟩
def Rp.ended (P : Rp) (i : Nat) : Bool := (P.ws (1 - i)).shut && decide ((P.ws (1 - i)).rd = (P.ws (1 - i)).all.length)
set_option maxHeartbeats 1000000 in
theorem rended_any {B : Nat} {F : Nat → Prop} {P : Rp} (g i : Nat) (w : World) (h : RefAt w B F g P) (hi : i < 2) :
    Calls Tryd.prog 30 #[.pointer (some ⟨g, 0, none⟩), .int .i64 (i : Int)] w fun x w' => x = .returned (.bool (P.ended i)) ∧ Below w.heap.size w w' := by
  obtain ⟨j, hj⟩ : ∃ j, j = 1 - i := ⟨_, rfl⟩
  obtain ⟨v, h, hok⟩ := h
  obtain ⟨A, cap, _, h1, h2, c0, c1, c2, c3⟩ := h.at (i := j) (by omega)
  have hg := h.row.lt
  have HO : Hid (P.ended i = ((P.ws j).shut && decide ((P.ws j).rd = (P.ws j).all.length))) := Lib.hid (by rw [hj]; rfl)
  generalize P.ended i = OV at *
  clear h hok
  cases hs : (P.ws j).shut
  · rw [hs] at c3 HO
    clear hs
    rcases (by omega : i = 0 ∧ j = 1 ∨ i = 1 ∧ j = 0) with ⟨rfl, rfl⟩ | ⟨rfl, rfl⟩
    all_goals
      clear hj
      go_enter Tryd.func30, Tryd.ntmps30
      go_wp2_with (first
        | (go_at_call 33; (with_reducible refine (rend_any _ _).mono ?_); rintro x w' ⟨rfl, rfl⟩))
      go_ret
      exact ⟨ret_bool HO.out.symm, (Below.refl _ _).alloc (Nat.le_refl _) _⟩
  · rw [hs] at c3 HO
    clear hs
    by_cases he : (P.ws j).rd = (P.ws j).all.length
    · have he' : (((P.ws j).rd : Int) == ((P.ws j).all.length : Int)) = true := by simp; omega
      have HD : Hid (decide ((P.ws j).rd = (P.ws j).all.length) = true) := Lib.hid (by simpa using he)
      clear he
      rcases (by omega : i = 0 ∧ j = 1 ∨ i = 1 ∧ j = 0) with ⟨rfl, rfl⟩ | ⟨rfl, rfl⟩
      all_goals
        clear hj
        go_enter Tryd.func30, Tryd.ntmps30
        go_wp2_with (first
          | (go_at_call 33; (with_reducible refine (rend_any _ _).mono ?_); rintro x w' ⟨rfl, rfl⟩))
        go_ret
        exact ⟨ret_bool (by rw [HO.out, HD.out]; rfl), (Below.refl _ _).alloc (Nat.le_refl _) _⟩
    · have he' : (((P.ws j).rd : Int) == ((P.ws j).all.length : Int)) = false := by simp; omega
      have HD : Hid (decide ((P.ws j).rd = (P.ws j).all.length) = false) := Lib.hid (by simpa using he)
      clear he
      rcases (by omega : i = 0 ∧ j = 1 ∨ i = 1 ∧ j = 0) with ⟨rfl, rfl⟩ | ⟨rfl, rfl⟩
      all_goals
        clear hj
        go_enter Tryd.func30, Tryd.ntmps30
        go_wp2_with (first
          | (go_at_call 33; (with_reducible refine (rend_any _ _).mono ?_); rintro x w' ⟨rfl, rfl⟩))
        go_ret
        exact ⟨ret_bool (by rw [HO.out, HD.out]; rfl), (Below.refl _ _).alloc (Nat.le_refl _) _⟩
theorem rfree_bad (a : Addr) (e : Int) (w : World) (h : endB e = false) : Calls Tryd.prog 24 #[.pointer (some a), .int .i64 e] w fun x w' => x = .returned (.int .i64 0) ∧ w = w' := by
  have HE := Lib.hid h
  clear h
  go_enter Tryd.func24, Tryd.ntmps24
  go_wp2_with (first
    | (go_at_call 33; (with_reducible refine (rend_false _ HE.out _).mono ?_); rintro x w' ⟨rfl, rfl⟩))
  go_ret
  exact ⟨rfl, rfl⟩
theorem rflight_bad (a : Addr) (e : Int) (w : World) (h : endB e = false) : Calls Tryd.prog 26 #[.pointer (some a), .int .i64 e] w fun x w' => x = .returned (.int .i64 0) ∧ w = w' := by
  have HE := Lib.hid h
  clear h
  go_enter Tryd.func26, Tryd.ntmps26
  go_wp2_with (first
    | (go_at_call 33; (with_reducible refine (rend_false _ HE.out _).mono ?_); rintro x w' ⟨rfl, rfl⟩))
  go_ret
  exact ⟨rfl, rfl⟩
theorem rinbox_bad (a : Addr) (e : Int) (w : World) (h : endB e = false) : Calls Tryd.prog 28 #[.pointer (some a), .int .i64 e] w fun x w' => x = .returned (.int .i64 0) ∧ w = w' := by
  have HE := Lib.hid h
  clear h
  go_enter Tryd.func28, Tryd.ntmps28
  go_wp2_with (first
    | (go_at_call 33; (with_reducible refine (rend_false _ HE.out _).mono ?_); rintro x w' ⟨rfl, rfl⟩))
  go_ret
  exact ⟨rfl, rfl⟩
theorem rended_bad (a : Addr) (e : Int) (w : World) (h : endB e = false) : Calls Tryd.prog 30 #[.pointer (some a), .int .i64 e] w fun x w' => x = .returned (.bool false) ∧ w = w' := by
  have HE := Lib.hid h
  clear h
  go_enter Tryd.func30, Tryd.ntmps30
  go_wp2_with (first
    | (go_at_call 33; (with_reducible refine (rend_false _ HE.out _).mono ?_); rintro x w' ⟨rfl, rfl⟩))
  go_ret
  exact ⟨rfl, rfl⟩
end Go.Proofs.YtlceemaannndbaaDoor
