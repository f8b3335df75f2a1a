/- What the functions of package sock that only read a pair answer. -/
import Derived.Test.YtlceemaannndbaaDoorPair
namespace Go.Proofs.YtlceemaannndbaaDoor
open Go.RowKit

/-- A way's cells, as a walk wants them. -/
theorem PairV.at {w : World} {B : Nat} {F : Nat → Prop} {g : Nat} {P : Pr} {v : Nat → Value} (h : PairV w B F g P v) {i : Nat} (hi : i < 2) :
    ∃ A cap, v i = .slice A (P.ws i).row.length cap ∧ (P.ws i).row.length ≤ cap ∧ cap ≤ 9223372036854775807 ∧ w.cell? ⟨g, 1 + i * 4, none⟩ = some (.slice A (P.ws i).row.length cap) ∧ w.cell? ⟨g, 1 + i * 4 + 1, none⟩ = some (.int .i64 ((P.ws i).car : Int)) ∧
      w.cell? ⟨g, 1 + i * 4 + 2, none⟩ = some (.bool (P.ws i).shut) ∧ w.cell? ⟨g, 1 + i * 4 + 3, none⟩ = some (.bool (P.ws i).torn) := by
  obtain ⟨A, cap, e, h1, h2, _⟩ := (h.span i hi).slice
  exact ⟨A, cap, e, h1, h2, by rw [h.row.cell, cells_row P v hi, e], by rw [h.row.cell, cells_car P v hi], by rw [h.row.cell, cells_shut P v hi], by rw [h.row.cell, cells_torn P v hi]⟩
theorem PairV.cut {w : World} {B : Nat} {F : Nat → Prop} {g : Nat} {P : Pr} {v : Nat → Value} (h : PairV w B F g P v) : w.cell? ⟨g, 9, none⟩ = some (.bool P.cut) := by rw [h.row.cell, cells_cut P v]
theorem PairV.room {w : World} {B : Nat} {F : Nat → Prop} {g : Nat} {P : Pr} {v : Nat → Value} (h : PairV w B F g P v) : w.cell? ⟨g, 0, none⟩ = some (.int .i64 (P.room : Int)) := by rw [h.row.cell, cells_room P v]

set_option maxHeartbeats 400000 in
theorem flight_any {B : Nat} {F : Nat → Prop} {P : Pr} (g i : Nat) (w : World) (h : PairAt w B F g P) (hi : i < 2) :
    Calls Tryd.prog 34 #[.pointer (some ⟨g, 1 + i * 4, none⟩)] w fun x w' => x = .returned (.int .i64 ((P.ws i).row.length - (P.ws i).car : Int)) ∧ ∃ n, w' = w.drewN n := by
  obtain ⟨v, h, hok⟩ := h
  obtain ⟨A, cap, _, h1, h2, c0, c1, c2, c3⟩ := h.at hi
  have k1 := hok.car i
  have k2 := hok.row i
  have k3 := hok.room
  clear h hok
  go_enter Tryd.func34, Tryd.ntmps34
  go_wp2_with fail
  go_quiet (fail)
  go_wp2_with fail
  go_ret
  exact ⟨rfl, _, rfl⟩

set_option maxHeartbeats 400000 in
theorem over_any {B : Nat} {F : Nat → Prop} {P : Pr} (g i : Nat) (w : World) (h : PairAt w B F g P) (hi : i < 2) :
    Calls Tryd.prog 40 #[.pointer (some ⟨g, 1 + i * 4, none⟩)] w fun x w' => x = .returned (.bool (P.ws i).over) ∧ w = w' := by
  have HO : Hid ((P.ws i).over = ((P.ws i).shut && !(P.ws i).torn && decide ((P.ws i).row.length = 0))) := Lib.hid rfl
  generalize (P.ws i).over = OV at *
  obtain ⟨v, h, hok⟩ := h
  obtain ⟨A, cap, _, h1, h2, c0, c1, c2, c3⟩ := h.at hi
  clear h hok
  generalize (P.ws i).shut = s at *
  generalize (P.ws i).torn = t at *
  by_cases hl : (P.ws i).row.length = 0
  · rw [hl] at c0 HO
    clear hl h1
    cases s <;> cases t
    all_goals
      go_enter Tryd.func40, Tryd.ntmps40
      go_wp2_with fail
      go_ret
      exact ⟨ret_bool HO.out.symm, rfl⟩
  · have hl' : (((P.ws i).row.length : Int) == 0) = false := by simp; simpa using hl
    have HD : Hid (decide ((P.ws i).row.length = 0) = false) := Lib.hid (by simpa using hl)
    clear hl
    generalize (P.ws i).row.length = L at *
    cases s <;> cases t
    all_goals
      go_enter Tryd.func40, Tryd.ntmps40
      go_wp2_with fail
      go_ret
      exact ⟨ret_bool (by rw [HO.out, HD.out]; rfl), rfl⟩

/-- How many bytes an end may write. -/
def Pr.free (P : Pr) (i : Nat) : Nat := if P.cut || (P.ws i).shut then 0 else P.room - (P.ws i).row.length
set_option maxHeartbeats 400000 in
theorem room_any {B : Nat} {F : Nat → Prop} {P : Pr} (g i : Nat) (w : World) (h : PairAt w B F g P) (hi : i < 2) :
    Calls Tryd.prog 23 #[.pointer (some ⟨g, 0, none⟩), .int .i64 (i : Int)] w fun x w' => x = .returned (.int .i64 (P.free i : Int)) ∧ ∃ n, w' = w.drewN n := by
  obtain ⟨v, h, hok⟩ := h
  obtain ⟨A, cap, _, h1, h2, c0, c1, c2, c3⟩ := h.at hi
  have cc := h.cut
  have cr := h.room
  have k2 := hok.row i
  have k3 := hok.room
  clear h hok
  have HE := Lib.hid (end_nat hi)
  cases hc : P.cut
  · rw [hc] at cc
    cases hs : (P.ws i).shut
    · rw [hs] at c2
      have HF : Hid ((P.free i : Int) = (P.room : Int) - ((P.ws i).row.length : Int)) := Lib.hid (by simp [Pr.free, hc, hs]; omega)
      clear hc hs
      go_enter Tryd.func23, Tryd.ntmps23
      go_wp2_with (first
        | (go_at_call 39; (with_reducible refine (isEnd_any _ _).mono ?_); rintro x w' ⟨rfl, rfl⟩; rw [HE.out])
        | (go_at_call 32; (with_reducible refine (out_any _ _ _ hi).mono ?_); rintro x w' ⟨rfl, rfl⟩))
      go_quiet ((go_at_call 32; exact quietL (out_any _ _ _ hi)))
      go_wp2_with fail
      go_ret
      exact ⟨ret_int HF.out.symm, _, rfl⟩
    · rw [hs] at c2
      have HF : Hid (P.free i = 0) := Lib.hid (by simp [Pr.free, hs])
      clear hc hs
      go_enter Tryd.func23, Tryd.ntmps23
      go_wp2_with (first
        | (go_at_call 39; (with_reducible refine (isEnd_any _ _).mono ?_); rintro x w' ⟨rfl, rfl⟩; rw [HE.out])
        | (go_at_call 32; (with_reducible refine (out_any _ _ _ hi).mono ?_); rintro x w' ⟨rfl, rfl⟩))
      go_ret
      exact ⟨by rw [HF.out]; rfl, 0, rfl⟩
  · rw [hc] at cc
    have HF : Hid (P.free i = 0) := Lib.hid (by simp [Pr.free, hc])
    clear hc
    go_enter Tryd.func23, Tryd.ntmps23
    go_wp2_with (first
      | (go_at_call 39; (with_reducible refine (isEnd_any _ _).mono ?_); rintro x w' ⟨rfl, rfl⟩; rw [HE.out]))
    go_ret
    exact ⟨by rw [HF.out]; rfl, 0, rfl⟩
theorem room_bad (a : Addr) (e : Int) (w : World) (h : endB e = false) : Calls Tryd.prog 23 #[.pointer (some a), .int .i64 e] w fun x w' => x = .returned (.int .i64 0) ∧ w = w' := by
  have HE := Lib.hid h
  clear h
  go_enter Tryd.func23, Tryd.ntmps23
  go_wp2_with (first
    | (go_at_call 39; (with_reducible refine (isEnd_any _ _).mono ?_); rintro x w' ⟨rfl, rfl⟩; rw [HE.out]))
  go_ret
  exact ⟨rfl, rfl⟩

theorem Flight_any {B : Nat} {F : Nat → Prop} {P : Pr} (g i : Nat) (w : World) (h : PairAt w B F g P) (hi : i < 2) :
    Calls Tryd.prog 25 #[.pointer (some ⟨g, 0, none⟩), .int .i64 (i : Int)] w fun x w' => x = .returned (.int .i64 ((P.ws i).row.length - (P.ws i).car : Int)) ∧ ∃ n, w' = w.drewN n := by
  have HE := Lib.hid (end_nat hi)
  have H := Lib.hid h
  clear h
  go_enter Tryd.func25, Tryd.ntmps25
  go_wp2_with (first
    | (go_at_call 39; (with_reducible refine (isEnd_any _ _).mono ?_); rintro x w' ⟨rfl, rfl⟩; rw [HE.out])
    | (go_at_call 32; (with_reducible refine (out_any _ _ _ hi).mono ?_); rintro x w' ⟨rfl, rfl⟩)
    | (go_at_call 34; (with_reducible refine (flight_any _ _ _ H.out hi).mono ?_); rintro x w' ⟨rfl, n, rfl⟩))
  go_ret
  exact ⟨rfl, _, rfl⟩
theorem Flight_bad (a : Addr) (e : Int) (w : World) (h : endB e = false) : Calls Tryd.prog 25 #[.pointer (some a), .int .i64 e] w fun x w' => x = .returned (.int .i64 0) ∧ w = w' := by
  have HE := Lib.hid h
  clear h
  go_enter Tryd.func25, Tryd.ntmps25
  go_wp2_with (first
    | (go_at_call 39; (with_reducible refine (isEnd_any _ _).mono ?_); rintro x w' ⟨rfl, rfl⟩; rw [HE.out]))
  go_ret
  exact ⟨rfl, rfl⟩

theorem Inbox_any {B : Nat} {F : Nat → Prop} {P : Pr} (g i : Nat) (w : World) (h : PairAt w B F g P) (hi : i < 2) :
    Calls Tryd.prog 27 #[.pointer (some ⟨g, 0, none⟩), .int .i64 (i : Int)] w fun x w' => x = .returned (.int .i64 ((P.ws (1 - i)).car : Int)) ∧ w = w' := by
  have HE := Lib.hid (end_nat hi)
  obtain ⟨v, h, hok⟩ := h
  obtain ⟨A, cap, _, h1, h2, c0, c1, c2, c3⟩ := h.at (i := 1 - i) (by omega)
  clear h hok
  go_enter Tryd.func27, Tryd.ntmps27
  go_wp2_with (first
    | (go_at_call 39; (with_reducible refine (isEnd_any _ _).mono ?_); rintro x w' ⟨rfl, rfl⟩; rw [HE.out])
    | (go_at_call 36; (with_reducible refine (in_any _ _ _ hi).mono ?_); rintro x w' ⟨rfl, rfl⟩))
  go_ret
  exact ⟨rfl, rfl⟩
theorem Inbox_bad (a : Addr) (e : Int) (w : World) (h : endB e = false) : Calls Tryd.prog 27 #[.pointer (some a), .int .i64 e] w fun x w' => x = .returned (.int .i64 0) ∧ w = w' := by
  have HE := Lib.hid h
  clear h
  go_enter Tryd.func27, Tryd.ntmps27
  go_wp2_with (first
    | (go_at_call 39; (with_reducible refine (isEnd_any _ _).mono ?_); rintro x w' ⟨rfl, rfl⟩; rw [HE.out]))
  go_ret
  exact ⟨rfl, rfl⟩

/-- Has an end ended? -/
def Pr.ended (P : Pr) (i : Nat) : Bool := (P.ws (1 - i)).over
theorem Ended_any {B : Nat} {F : Nat → Prop} {P : Pr} (g i : Nat) (w : World) (h : PairAt w B F g P) (hi : i < 2) :
    Calls Tryd.prog 29 #[.pointer (some ⟨g, 0, none⟩), .int .i64 (i : Int)] w fun x w' => x = .returned (.bool (P.ended i)) ∧ w = w' := by
  have HE := Lib.hid (end_nat hi)
  have H := Lib.hid h
  clear h
  go_enter Tryd.func29, Tryd.ntmps29
  go_wp2_with (first
    | (go_at_call 39; (with_reducible refine (isEnd_any _ _).mono ?_); rintro x w' ⟨rfl, rfl⟩; rw [HE.out])
    | (go_at_call 36; (with_reducible refine (in_any _ _ _ hi).mono ?_); rintro x w' ⟨rfl, rfl⟩)
    | (go_at_call 40; (with_reducible refine (over_any _ _ _ H.out (by omega)).mono ?_); rintro x w' ⟨rfl, rfl⟩))
  go_ret
  exact ⟨rfl, rfl⟩
theorem Ended_bad (a : Addr) (e : Int) (w : World) (h : endB e = false) : Calls Tryd.prog 29 #[.pointer (some a), .int .i64 e] w fun x w' => x = .returned (.bool false) ∧ w = w' := by
  have HE := Lib.hid h
  clear h
  go_enter Tryd.func29, Tryd.ntmps29
  go_wp2_with (first
    | (go_at_call 39; (with_reducible refine (isEnd_any _ _).mono ?_); rintro x w' ⟨rfl, rfl⟩; rw [HE.out]))
  go_ret
  exact ⟨rfl, rfl⟩
theorem Broken_any {B : Nat} {F : Nat → Prop} {P : Pr} (g : Nat) (w : World) (h : PairAt w B F g P) :
    Calls Tryd.prog 22 #[.pointer (some ⟨g, 0, none⟩)] w fun x w' => x = .returned (.bool P.cut) ∧ w = w' := by
  obtain ⟨v, h, hok⟩ := h
  have cc := h.cut
  clear h hok
  go_enter Tryd.func22, Tryd.ntmps22
  go_wp2_with fail
  go_ret
  exact ⟨rfl, rfl⟩

/-- The error that Write, Shut and Carry have in common. -/
theorem refusal_bad (ad : Nat → Addr) (a : Addr) (e n : Int) (w : World) (hE : Errs w ad) (h : (endB e && decide (0 ≤ n)) = false) :
    Calls Tryd.prog 31 #[.pointer (some a), .int .i64 e, .int .i64 n] w fun x w' => x = .returned (.iface 73 (.pointer (some (ad 0)))) ∧ w = w' := by
  have HE := Lib.hid h
  have c0 := hE.cell 0 (by omega)
  clear h hE
  go_enter Tryd.func31, Tryd.ntmps31
  go_wp2_with (first
    | (go_at_call 35; (with_reducible refine (inRange_any _ _ _).mono ?_); rintro x w' ⟨rfl, rfl⟩; rw [HE.out]))
  go_ret
  exact ⟨rfl, rfl⟩
theorem refusal_cut {B : Nat} {F : Nat → Prop} {P : Pr} (ad : Nat → Addr) (g i : Nat) (n : Int) (w : World) (hE : Errs w ad) (h : PairAt w B F g P) (hi : i < 2) (hn : 0 ≤ n) (hc : P.cut = true) :
    Calls Tryd.prog 31 #[.pointer (some ⟨g, 0, none⟩), .int .i64 (i : Int), .int .i64 n] w fun x w' => x = .returned (.iface 73 (.pointer (some (ad 1)))) ∧ w = w' := by
  have HE : Hid ((endB (i : Int) && decide (0 ≤ n)) = true) := Lib.hid (by rw [end_nat hi]; simpa using hn)
  have c1 := hE.cell 1 (by omega)
  obtain ⟨v, h, hok⟩ := h
  have cc := h.cut
  rw [hc] at cc
  clear h hok hE hc
  go_enter Tryd.func31, Tryd.ntmps31
  go_wp2_with (first
    | (go_at_call 35; (with_reducible refine (inRange_any _ _ _).mono ?_); rintro x w' ⟨rfl, rfl⟩; rw [HE.out]))
  go_ret
  exact ⟨rfl, rfl⟩
theorem refusal_none {B : Nat} {F : Nat → Prop} {P : Pr} (g i : Nat) (n : Int) (w : World) (h : PairAt w B F g P) (hi : i < 2) (hn : 0 ≤ n) (hc : P.cut = false) :
    Calls Tryd.prog 31 #[.pointer (some ⟨g, 0, none⟩), .int .i64 (i : Int), .int .i64 n] w fun x w' => x = .returned .nilIface ∧ w = w' := by
  have HE : Hid ((endB (i : Int) && decide (0 ≤ n)) = true) := Lib.hid (by rw [end_nat hi]; simpa using hn)
  obtain ⟨v, h, hok⟩ := h
  have cc := h.cut
  rw [hc] at cc
  clear h hok hc
  go_enter Tryd.func31, Tryd.ntmps31
  go_wp2_with (first
    | (go_at_call 35; (with_reducible refine (inRange_any _ _ _).mono ?_); rintro x w' ⟨rfl, rfl⟩; rw [HE.out]))
  go_ret
  exact ⟨rfl, rfl⟩
end Go.Proofs.YtlceemaannndbaaDoor
