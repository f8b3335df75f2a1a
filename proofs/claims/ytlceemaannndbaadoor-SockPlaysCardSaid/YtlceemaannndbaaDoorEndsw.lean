/- The law SockEnds: an end ends just when the other one is shut, and all it wrote was carried and read. -/
import Derived.Test.YtlceemaannndbaaDoorAlive
namespace Go.Proofs.YtlceemaannndbaaDoor
open Go.RowKit

theorem h_ended_v {B : Nat} {K : Nat → Prop} {P : Pr} (v : Bool) (g i : Nat) (e : Int) (he : e = (i : Int)) (w : World) (h : Has w B K g P) (hi : i < 2) (hv : P.ended i = v) :
    Calls Tryd.prog 29 #[.pointer (some ⟨g, 0, none⟩), .int .i64 e] w fun x w' => x = .returned (.bool v) ∧ w = w' := by
  subst hv
  exact h_ended g i e he w h hi

/-- The pair of SockEnds, call by call. -/
def en1 (bs : List UInt8) : Pr := (fresh 65536).wrote 0 bs
def en2 (bs : List UInt8) : Pr := (en1 bs).setShut 0
def enC (bs : List UInt8) : Pr := ((en2 bs).carry 0 (bs.length - 1)).cutting
def en3 (bs : List UInt8) : Pr := (en2 bs).carry 0 bs.length
def en4 (bs : List UInt8) : Pr := (en3 bs).took 0 bs.length
theorem en1_ws (bs : List UInt8) (h : bs.length ≤ 60000) : (en1 bs).ws 0 = ⟨bs, 0, false, false⟩ := by
  have : min bs.length 65536 = bs.length := by omega
  simp [en1, Pr.wrote, Pr.put, fresh, Pr.puts, Pr.free, this]
theorem en2_ws (bs : List UInt8) (h : bs.length ≤ 60000) : (en2 bs).ws 0 = ⟨bs, 0, true, false⟩ := by rw [en2, Pr.setShut, Pr.put_same, en1_ws bs h]
theorem enB_ws (bs : List UInt8) (h : bs.length ≤ 60000) : ((en2 bs).carry 0 (bs.length - 1)).ws 0 = ⟨bs, bs.length - 1, true, false⟩ := by
  rw [Pr.carry, Pr.put_same, Pr.moved, en2_ws bs h]
  simp
theorem en3_ws (bs : List UInt8) (h : bs.length ≤ 60000) : (en3 bs).ws 0 = ⟨bs, bs.length, true, false⟩ := by
  rw [en3, Pr.carry, Pr.put_same, Pr.moved, en2_ws bs h]
  simp
theorem en4_ws (bs : List UInt8) (h : bs.length ≤ 60000) : (en4 bs).ws 0 = ⟨[], 0, true, false⟩ := by
  rw [en4, Pr.took, Pr.put_same, Pr.takes, en3_ws bs h]
  simp
theorem cutting_ws0 (P : Pr) : P.cutting.ws 0 = { P.ws 0 with torn := (P.ws 0).torn || decide ((P.ws 0).car < (P.ws 0).row.length), row := (P.ws 0).row.take (P.ws 0).car } := rfl
theorem cutting_ws1 (P : Pr) : P.cutting.ws 1 = { P.ws 1 with torn := (P.ws 1).torn || decide ((P.ws 1).car < (P.ws 1).row.length), row := (P.ws 1).row.take (P.ws 1).car } := rfl
theorem en1_cut (bs : List UInt8) : (en1 bs).cut = false := rfl
theorem en2_cut (bs : List UInt8) : (en2 bs).cut = false := rfl
theorem en3_cut (bs : List UInt8) : (en3 bs).cut = false := rfl
theorem enC_cut (bs : List UInt8) : (enC bs).cut = true := rfl
theorem en1_ended (bs : List UInt8) (h : bs.length ≤ 60000) : (en1 bs).ended 1 = false := by rw [Pr.ended, en1_ws bs h]; rfl
theorem en2_ended (bs : List UInt8) (h : bs.length ≤ 60000) (h0 : 1 ≤ bs.length) : (en2 bs).ended 1 = false := by rw [Pr.ended, en2_ws bs h]; simp [Wy.over]; intro e; subst e; simp at h0
theorem enC_ended (bs : List UInt8) (h : bs.length ≤ 60000) (h0 : 1 ≤ bs.length) : (enC bs).ended 1 = false := by
  rw [Pr.ended, enC, cutting_ws0, enB_ws bs h]
  simp [Wy.over]
  intro h1
  omega
theorem enC_ended0 (bs : List UInt8) : (enC bs).ended 0 = false := rfl
theorem enD_ended (bs : List UInt8) (n : Nat) (h : bs.length ≤ 60000) (h0 : 1 ≤ bs.length) : ((enC bs).took 0 n).ended 1 = false := by
  rw [Pr.ended, Pr.took, Pr.put_same, enC, cutting_ws0, enB_ws bs h]
  simp [Wy.over]
  intro h1
  omega
theorem enD_ended0 (bs : List UInt8) (n : Nat) : ((enC bs).took 0 n).ended 0 = false := rfl
theorem en3_ended (bs : List UInt8) (h : bs.length ≤ 60000) (h0 : 1 ≤ bs.length) : (en3 bs).ended 1 = false := by rw [Pr.ended, en3_ws bs h]; simp [Wy.over]; intro e; subst e; simp at h0
theorem en4_ended (bs : List UInt8) (h : bs.length ≤ 60000) : (en4 bs).ended 1 = true := by rw [Pr.ended, en4_ws bs h]; rfl
theorem en5_ended (bs : List UInt8) (h : bs.length ≤ 60000) : (en4 bs).cutting.ended 1 = true := by rw [Pr.ended, cutting_ws0, en4_ws bs h]; rfl
theorem en5_ended0 (bs : List UInt8) : (en4 bs).cutting.ended 0 = false := rfl

set_option maxHeartbeats 1000000 in
set_option maxRecDepth 100000 in
theorem ends_any (ad : Nat → Addr) (A : Option Addr) (L c : Nat) (bs : List UInt8) (cut : Bool) (w : World) (hE : Errs w ad) (h3 : 3 ≤ w.heap.size) (hL : bs.length = L) (hLc : L ≤ c) (hcm : c ≤ 9223372036854775807) (hr : Rd w w.heap.size A (bs.map bv)) :
    Calls Tryd.prog 7 #[.slice A L c, .bool cut] w fun e w' => e = .returned (.bool true) ∧ Below w.heap.size w w' := by
  have HE := Lib.hid hE
  have HL := Lib.hid hL
  have HR := Lib.hid hr
  clear hE hL hr
  by_cases hlo : L < 1
  · go_enter Tryd.func7, Tryd.ntmps7
    go_wp2_with fail
    with_reducible refine (alive_any ad w HE.out h3).mono ?_
    rintro x w1 ⟨rfl, H1⟩
    go_wp2_with fail
    go_ret
    exact ⟨rfl, H1.out⟩
  by_cases hhi : 60000 < L
  · go_enter Tryd.func7, Tryd.ntmps7
    go_wp2_with fail
    with_reducible refine (alive_any ad w HE.out h3).mono ?_
    rintro x w1 ⟨rfl, H1⟩
    go_wp2_with fail
    go_ret
    exact ⟨rfl, H1.out⟩
  have kl : bs.length ≤ 60000 := by rw [HL.out]; omega
  have kl0 : 1 ≤ bs.length := by rw [HL.out]; omega
  go_enter Tryd.func7, Tryd.ntmps7
  go_wp2_with fail
  with_reducible refine (alive_any ad w HE.out h3).mono ?_
  rintro x w1 ⟨rfl, H1⟩
  go_wp2_with fail
  with_reducible refine (h_new (B := w1.heap.size) (K := fun k => k < w1.heap.size) 65536 65536 rfl w1 (by omega) (by omega) (fun k h => h) (Nat.le_refl _)).mono ?_
  rintro x w2 ⟨rfl, H2⟩
  have HR2 : Hid (Rd w2 w2.heap.size A (bs.map bv)) := Lib.hid (((HR.out.below H1.out).more H1.out.size).below (H2.out.2.below (fun k h => h)) |>.more H2.out.2.size)
  have HE2 : Hid (Errs w2 ad) := Lib.hid ((HE.out.below h3 H1.out).below (Nat.le_trans h3 H1.out.size) (H2.out.2.below (fun k h => h)))
  go_wp2_with fail
  with_reducible refine (h_write _ 0 0 rfl A L c bs w2 H2.out.1 (by omega) rfl rfl HL.out hLc hcm HR2.out).mono ?_
  rintro x w3 ⟨rfl, H3⟩
  have HH3 : Hid (Has w3 w1.heap.size (fun k => k < w1.heap.size) w1.heap.size (en1 bs)) := Lib.hid H3.out.1
  go_wp2_with fail
  with_reducible refine (h_ended_v false _ 1 1 rfl w3 HH3.out (by omega) (en1_ended bs kl)).mono ?_
  rintro x w3' ⟨rfl, rfl⟩
  go_wp2_with fail
  with_reducible refine (h_shut _ 0 0 rfl w3 HH3.out (by omega) (en1_cut bs)).mono ?_
  rintro x w4 ⟨rfl, H4⟩
  have HH4 : Hid (Has w4 w1.heap.size (fun k => k < w1.heap.size) w1.heap.size (en2 bs)) := Lib.hid H4.out.1
  go_wp2_with fail
  with_reducible refine (h_ended_v false _ 1 1 rfl w4 HH4.out (by omega) (en2_ended bs kl kl0)).mono ?_
  rintro x w4' ⟨rfl, rfl⟩
  have HK4 : Hid (Keep (fun k => k < w1.heap.size) w1 w4) := Lib.hid ((H2.out.2.trans H3.out.2).trans H4.out.2)
  cases cut
  · go_wp2_with fail
    with_reducible refine (h_carry _ 0 0 rfl L _ rfl w4 HH4.out (by omega) (en2_cut bs) (by omega)).mono ?_
    rintro x w5 ⟨rfl, H5⟩
    have HH5 : Hid (Has w5 w1.heap.size (fun k => k < w1.heap.size) w1.heap.size (en3 bs)) := Lib.hid (by rw [en3, HL.out]; exact H5.out.1)
    go_wp2_with fail
    with_reducible refine (h_ended_v false _ 1 1 rfl w5 HH5.out (by omega) (en3_ended bs kl kl0)).mono ?_
    rintro x w5' ⟨rfl, rfl⟩
    go_wp2_with fail
    with_reducible refine (h_read _ 1 1 rfl L _ rfl w5 HH5.out (by omega) (by omega) (fun h => by rw [en3_cut] at h; cases h)).mono ?_
    rintro x w6 ⟨A6, m6, c6, rfl, H6⟩
    have HH6 : Hid (Has w6 w1.heap.size (fun k => k < w1.heap.size) w1.heap.size (en4 bs)) := Lib.hid (by rw [en4, HL.out]; exact H6.out.2.1)
    go_wp2_with fail
    with_reducible refine (h_ended_v true _ 1 1 rfl w6 HH6.out (by omega) (en4_ended bs kl)).mono ?_
    rintro x w6' ⟨rfl, rfl⟩
    go_wp2_with fail
    with_reducible refine (h_cut _ _ HH6.out).mono ?_
    rintro x w7 ⟨rfl, H7⟩
    go_wp2_with fail
    with_reducible refine (h_ended_v true _ 1 1 rfl w7 H7.out.1 (by omega) (en5_ended bs kl)).mono ?_
    rintro x w7' ⟨rfl, rfl⟩
    go_wp2_with fail
    with_reducible refine (h_ended_v false _ 0 0 rfl w7 H7.out.1 (by omega) (en5_ended0 bs)).mono ?_
    rintro x w7' ⟨rfl, rfl⟩
    go_wp2_with fail
    go_ret
    exact ⟨rfl, H1.out.trans (((((HK4.out.trans H5.out.2).trans H6.out.2.2).trans H7.out.2).below (fun k h => h)).mono H1.out.size)⟩
  · go_wp2_with fail
    with_reducible refine (h_carry _ 0 0 rfl (L - 1) _ (by omega) w4 HH4.out (by omega) (en2_cut bs) (by omega)).mono ?_
    rintro x w5 ⟨rfl, H5⟩
    go_wp2_with fail
    with_reducible refine (h_cut _ _ H5.out.1).mono ?_
    rintro x w6 ⟨rfl, H6⟩
    have HH6 : Hid (Has w6 w1.heap.size (fun k => k < w1.heap.size) w1.heap.size (enC bs)) := Lib.hid (by rw [enC, HL.out]; exact H6.out.1)
    have HK6 : Hid (Keep (fun k => k < w1.heap.size) w1 w6) := Lib.hid ((HK4.out.trans H5.out.2).trans H6.out.2)
    have HC0 : Hid (((enC bs).ws 0).car = L - 1) := Lib.hid (by rw [enC, cutting_ws0, enB_ws bs kl, HL.out])
    by_cases h1 : L = 1
    · have HE6 : Hid (Errs w6 ad) := Lib.hid (HE.out.below h3 (H1.out.trans ((HK6.out.below (fun k h => h)).mono H1.out.size)))
      have HZ : Hid (((enC bs).ws (1 - 1)).car = 0) := Lib.hid (by show ((enC bs).ws 0).car = 0; rw [HC0.out]; omega)
      clear h1
      go_wp2_with fail
      with_reducible refine (h_read_cut ad _ 1 1 rfl L _ rfl w6 HE6.out HH6.out (by omega) (enC_cut bs) HZ.out).mono ?_
      rintro x w7 ⟨rfl, n7, rfl⟩
      have HH7 := Lib.hid (HH6.out.stay (Stay.drewN w6 n7))
      go_wp2_with fail
      with_reducible refine (h_ended_v false _ 1 1 rfl _ HH7.out (by omega) (enC_ended bs kl kl0)).mono ?_
      rintro x w7' ⟨rfl, rfl⟩
      go_wp2_with fail
      with_reducible refine (h_ended_v false _ 0 0 rfl _ HH7.out (by omega) (enC_ended0 bs)).mono ?_
      rintro x w7' ⟨rfl, rfl⟩
      go_wp2_with fail
      go_ret
      exact ⟨rfl, H1.out.trans (((HK6.out.trans (Keep.stay (Stay.drewN w6 n7))).below (fun k h => h)).mono H1.out.size)⟩
    · have HZ : Hid (((enC bs).ws (1 - 1)).car ≠ 0) := Lib.hid (by show ((enC bs).ws 0).car ≠ 0; rw [HC0.out]; omega)
      clear h1
      go_wp2_with fail
      with_reducible refine (h_read _ 1 1 rfl L _ rfl w6 HH6.out (by omega) (by omega) (fun _ => HZ.out)).mono ?_
      rintro x w7 ⟨A7, m7, c7, rfl, H7⟩
      go_wp2_with fail
      with_reducible refine (h_ended_v false _ 1 1 rfl _ H7.out.2.1 (by omega) (enD_ended bs L kl kl0)).mono ?_
      rintro x w7' ⟨rfl, rfl⟩
      go_wp2_with fail
      with_reducible refine (h_ended_v false _ 0 0 rfl _ H7.out.2.1 (by omega) (enD_ended0 bs L)).mono ?_
      rintro x w7' ⟨rfl, rfl⟩
      go_wp2_with fail
      go_ret
      exact ⟨rfl, H1.out.trans (((HK6.out.trans H7.out.2.2).below (fun k h => h)).mono H1.out.size)⟩
end Go.Proofs.YtlceemaannndbaaDoor
