/- The law SockLost: a cut loses just what is in flight. -/
import Derived.Test.YtlceemaannndbaaDoorEndsw
import Derived.LoopTactic
import Derived.IntWalk
namespace Go.Proofs.YtlceemaannndbaaDoor
open Go.RowKit

/-- The pair of SockLost behind the cut, and so many bytes read. -/
def lo1 (bs : List UInt8) : Pr := (fresh 65536).wrote 1 bs
def lo2 (bs : List UInt8) (n : Nat) : Pr := (lo1 bs).carry 1 n
/-- 'end 0 can read just the bytes ys, behind a cut'. -/
structure LoAt (P : Pr) (ys : List UInt8) : Prop where
  cut : P.cut = true
  row : (P.ws 1).row = ys
  car : (P.ws 1).car = ys.length
theorem lo1_ws (bs : List UInt8) (h : bs.length ≤ 60000) : (lo1 bs).ws 1 = ⟨bs, 0, false, false⟩ := by
  have : min bs.length 65536 = bs.length := by omega
  simp [lo1, Pr.wrote, Pr.put, fresh, Pr.puts, Pr.free, this]
def strLen : Value → Nat
  | .string s => s.size
  | _ => 0
theorem lo1_cut (bs : List UInt8) : (lo1 bs).cut = false := rfl
theorem lo1_puts (bs : List UInt8) (L : Nat) (hL : bs.length = L) (h : bs.length ≤ 60000) : (fresh 65536).puts 1 L = L := by
  have : min bs.length 65536 = bs.length := by omega
  rw [← hL]
  simp [Pr.puts, Pr.free, fresh, this]
theorem lo2_moved (bs : List UInt8) (n : Nat) (h : bs.length ≤ 60000) (hn : n ≤ bs.length) : (lo1 bs).moved 1 n = n := by
  rw [Pr.moved, lo1_ws bs h]
  show min n (bs.length - 0) = n
  omega
theorem lo2_ws (bs : List UInt8) (n : Nat) (h : bs.length ≤ 60000) (hn : n ≤ bs.length) : (lo2 bs n).ws 1 = ⟨bs, n, false, false⟩ := by
  rw [lo2, Pr.carry, Pr.put_same, lo2_moved bs n h hn, lo1_ws bs h]
  simp
theorem lo3_at (bs : List UInt8) (n : Nat) (h : bs.length ≤ 60000) (hn : n ≤ bs.length) : LoAt (lo2 bs n).cutting (bs.take n) := by
  refine ⟨rfl, ?_, ?_⟩
  · rw [cutting_ws1, lo2_ws bs n h hn]
  · rw [cutting_ws1, lo2_ws bs n h hn]
    show n = (bs.take n).length
    rw [List.length_take]; omega
theorem LoAt.took {P : Pr} {ys : List UInt8} (h : LoAt P ys) (n : Nat) : LoAt (P.took 1 n) (ys.drop n) ∧ (P.ws 1).row.take (P.takes 1 n) = ys.take n := by
  have ht : P.takes 1 n = min n ys.length := by rw [Pr.takes, h.car]
  have hd : ys.drop (min n ys.length) = ys.drop n := by
    rcases Nat.le_total n ys.length with hl | hl
    · rw [Nat.min_eq_left hl]
    · rw [Nat.min_eq_right hl, List.drop_of_length_le (Nat.le_refl _), List.drop_of_length_le hl]
  refine ⟨⟨h.cut, ?_, ?_⟩, ?_⟩
  · rw [Pr.took, Pr.put_same, ht, h.row]; exact hd
  · rw [Pr.took, Pr.put_same, ht, h.car]
    show ys.length - min n ys.length = (ys.drop n).length
    rw [List.length_drop]; omega
  · rw [ht, h.row]
    rcases Nat.le_total n ys.length with hl | hl
    · rw [Nat.min_eq_left hl]
    · rw [Nat.min_eq_right hl, List.take_of_length_le (Nat.le_refl _), List.take_of_length_le hl]
theorem LoAt.flight {P : Pr} {ys : List UInt8} (h : LoAt P ys) : ((P.ws 1).row.length - (P.ws 1).car : Int) = 0 := by rw [h.row, h.car]; omega

/-- Read of end 0 behind the cut. -/
theorem lo_read {B : Nat} {K : Nat → Prop} {P : Pr} {ys : List UInt8} (g : Nat) (n : Nat) (z : Int) (hz : z = (n : Int)) (w : World) (h : Has w B K g P ∧ LoAt P ys) (hn : n ≤ 9223372036854775807) (h0 : ys ≠ []) :
    Calls Tryd.prog 19 #[.pointer (some ⟨g, 0, none⟩), .int .i64 0, .int .i64 z] w fun x w' => ∃ A m c, x = .returned (.tuple #[.slice A m c, .nilIface]) ∧
      Hid (New w w' A m c (ys.take n) ∧ (∃ P', Has w' B K g P' ∧ LoAt P' (ys.drop n)) ∧ Keep K w w') := by
  have hc : (P.ws 1).car ≠ 0 := by rw [h.2.car]; intro e; exact h0 (List.eq_nil_of_length_eq_zero e)
  refine (h_read g 0 0 rfl n z hz w h.1 (by omega) hn (fun _ => hc)).mono fun x w' ⟨A, m, c, he, H⟩ => ⟨A, m, c, he, Lib.hid ⟨?_, ⟨_, H.out.2.1, (h.2.took n).1⟩, H.out.2.2⟩⟩
  rw [← (h.2.took n).2]
  exact H.out.1
theorem rest_nat (z : Int) (m : Nat) (hm : 0 < m) (h : m ≤ 1000000) : ∃ C : Nat, wrap64 ((IntKind.u64.wrap z).tmod (m : Int)) = (C : Int) ∧ C < m := by
  have h0 : 0 ≤ IntKind.u64.wrap z := by
    unfold IntKind.wrap
    simp [IntKind.signed, IntKind.bits]
    omega
  have h1 := Int.tmod_nonneg (m : Int) h0
  have h2 := Int.tmod_lt_of_pos (IntKind.u64.wrap z) (b := (m : Int)) (by omega)
  refine ⟨((IntKind.u64.wrap z).tmod (m : Int)).toNat, ?_, by omega⟩
  unfold wrap64
  omega
/-- A string of these bytes. -/
def strOf (bs : List UInt8) : ByteArray := ⟨bs.toArray⟩
theorem strOf_size (bs : List UInt8) : (strOf bs).size = bs.length := by simp [strOf, ByteArray.size]
theorem strOf_append (a b : List UInt8) : strOf a ++ strOf b = strOf (a ++ b) := by
  apply ByteArray.ext
  show (strOf a ++ strOf b).data = _
  rw [ByteArray.data_append]
  simp [strOf]
theorem take_part (bs : List UInt8) (k C Q : Nat) (h : k ≤ C) : bs.take k ++ ((bs.take C).drop k).take Q = bs.take (k + min Q (C - k)) := by
  rw [List.drop_take, List.take_take, List.take_add]
theorem drop_part (bs : List UInt8) (k C Q : Nat) (h : k ≤ C) (hC : C ≤ bs.length) : ((bs.take C).drop k).drop Q = (bs.take C).drop (k + min Q (C - k)) := by
  rw [List.drop_drop]
  rcases Nat.le_total Q (C - k) with hq | hq
  · rw [Nat.min_eq_left hq]
  · rw [Nat.min_eq_right hq, List.drop_of_length_le (by rw [List.length_take]; omega), List.drop_of_length_le (by rw [List.length_take]; omega)]

set_option maxHeartbeats 1000000 in
set_option maxRecDepth 100000 in
theorem lost_any (ad : Nat → Addr) (A : Option Addr) (L c : Nat) (bs : List UInt8) (z1 z2 : Int) (w : World) (hE : Errs w ad) (h3 : 3 ≤ w.heap.size) (hL : bs.length = L) (hLc : L ≤ c) (hcm : c ≤ 9223372036854775807) (hr : Rd w w.heap.size A (bs.map bv))
    (b1 : -9223372036854775808 ≤ z1) (b2 : z1 ≤ 9223372036854775807) (b3 : -9223372036854775808 ≤ z2) (b4 : z2 ≤ 9223372036854775807) :
    Calls Tryd.prog 6 #[.slice A L c, .int .i64 z1, .int .i64 z2] w fun e w' => e = .returned (.bool true) ∧ Below w.heap.size w w' := by
  have HE := Lib.hid hE
  have HL := Lib.hid hL
  have HR := Lib.hid hr
  clear hE hL hr
  by_cases hhi : 60000 < L
  · go_enter Tryd.func6, Tryd.ntmps6
    go_wp2_with fail
    with_reducible refine (alive_any ad w HE.out h3).mono ?_
    rintro x w1 ⟨rfl, H1⟩
    go_wp2_with fail
    go_ret
    exact ⟨rfl, H1.out⟩
  have kl : bs.length ≤ 60000 := by rw [HL.out]; omega
  go_enter Tryd.func6, Tryd.ntmps6
  go_wp2_with fail
  with_reducible refine (alive_any ad w HE.out h3).mono ?_
  rintro x w1 ⟨rfl, H1⟩
  go_wp2_with fail
  with_reducible refine (h_new (B := w1.heap.size) (K := fun k => k < w1.heap.size) 65536 65536 rfl w1 (by omega) (by omega) (fun k h => h) (Nat.le_refl _)).mono ?_
  rintro x w2 ⟨rfl, H2⟩
  have HR2 : Hid (Rd w2 w2.heap.size A (bs.map bv)) := Lib.hid (((HR.out.below H1.out).more H1.out.size).below (H2.out.2.below (fun k h => h)) |>.more H2.out.2.size)
  have HPU := Lib.hid (lo1_puts bs L HL.out kl)
  go_wp2_with fail
  with_reducible refine (h_write _ 1 1 rfl A L c bs w2 H2.out.1 (by omega) rfl rfl HL.out hLc hcm HR2.out).mono ?_
  rintro x w3 ⟨rfl, H3⟩
  rw [HPU.out]
  obtain ⟨C, HC, hC⟩ : ∃ C : Nat, Hid (wrap64 ((IntKind.u64.wrap z1).tmod ((L : Int) + 1)) = (C : Int)) ∧ C ≤ L := by
    obtain ⟨C, e, h⟩ := rest_nat z1 (L + 1) (by omega) (by omega)
    exact ⟨C, Lib.hid (by rw [← e]; rfl), by omega⟩
  obtain ⟨Q, HQ, hQ1, hQ2⟩ : ∃ Q : Nat, Hid (wrap64 (1 + wrap64 ((IntKind.u64.wrap z2).tmod 3000)) = (Q : Int)) ∧ 1 ≤ Q ∧ Q ≤ 3000 := by
    obtain ⟨C, e, h⟩ := rest_nat z2 3000 (by omega) (by omega)
    exact ⟨C + 1, Lib.hid (by rw [show ((3000 : Nat) : Int) = 3000 from rfl] at e; rw [e]; unfold wrap64; omega), by omega, by omega⟩
  have HH3 : Hid (Has w3 w1.heap.size (fun k => k < w1.heap.size) w1.heap.size (lo1 bs)) := Lib.hid H3.out.1
  have HM := Lib.hid (lo2_moved bs C kl (by rw [HL.out]; exact hC))
  go_wp2_with fail
  rw [HC.out, HQ.out]
  with_reducible refine (h_carry _ 1 1 rfl C _ rfl w3 HH3.out (by omega) (lo1_cut bs) (by omega)).mono ?_
  rintro x w4 ⟨rfl, H4⟩
  rw [HM.out]
  have HH4 : Hid (Has w4 w1.heap.size (fun k => k < w1.heap.size) w1.heap.size (lo2 bs C)) := Lib.hid H4.out.1
  go_wp2_with fail
  with_reducible refine (h_cut _ _ HH4.out).mono ?_
  rintro x w5 ⟨rfl, H5⟩
  have HK5 : Hid (Keep (fun k => k < w1.heap.size) w1 w5) := Lib.hid (((H2.out.2.trans H3.out.2).trans H4.out.2).trans H5.out.2)
  have HA5 : Hid (∃ P, Has w5 w1.heap.size (fun k => k < w1.heap.size) w1.heap.size P ∧ LoAt P (bs.take C)) := Lib.hid ⟨_, H5.out.1, lo3_at bs C kl (by rw [HL.out]; exact hC)⟩
  clear H2 H3 H4 H5 HH3 HH4 HPU HM
  go_wp2_with fail
  go_loopw [13, 14, 15] (fun s _ _ w' => ∃ (t : ByteArray) (k : Nat), k ≤ C ∧ s = .string t ∧ k ≤ t.size ∧ t.size ≤ k ∧ Hid (t = strOf (bs.take k) ∧ (∃ P, Has w' w1.heap.size (fun k => k < w1.heap.size) w1.heap.size P ∧ LoAt P ((bs.take C).drop k)) ∧ Keep (fun k => k < w1.heap.size) w1 w')) (fun s _ _ _ => C - strLen s)
  case atStart => exact ⟨_, 0, Nat.zero_le _, rfl, Nat.zero_le _, by simp [ByteArray.size], Lib.hid ⟨by simp [strOf], HA5.out, HK5.out⟩⟩
  case round =>
    obtain ⟨s, k, hk, rfl, hs1, hs2, HI⟩ := hrel
    by_cases hlt : s.size < C
    · obtain ⟨P, hP⟩ : ∃ P, Hid (Has wr w1.heap.size (fun k => k < w1.heap.size) w1.heap.size P ∧ LoAt P ((bs.take C).drop k)) := by
        obtain ⟨P, h⟩ := HI.out.2.1
        exact ⟨P, Lib.hid h⟩
      have hlen : ((bs.take C).drop k).length = C - k := by rw [List.length_drop, List.length_take, HL.out]; omega
      have HNE : Hid ((bs.take C).drop k ≠ []) := Lib.hid (fun e => by rw [e] at hlen; simp at hlen; omega)
      have HLEN := Lib.hid hlen
      clear hlen
      go_wp2_with fail
      with_reducible refine (lo_read _ Q _ rfl _ hP.out (by omega) HNE.out).mono ?_
      rintro x w6 ⟨A6, m6, c6, rfl, H6⟩
      have hm6 : m6 = min Q (C - k) := by
        have := H6.out.1.1
        rw [List.length_take, HLEN.out] at this
        omega
      have HM6 := Lib.hid hm6
      have hm6' : ((m6 : Int) == 0) = false := by simp; omega
      have hm7 : m6 ≤ C - k := by omega
      have hm8 : 1 ≤ m6 := by omega
      clear hm6
      obtain ⟨t, HT⟩ : ∃ t, Hid (t = strOf (((bs.take C).drop k).take Q)) := ⟨_, Lib.hid rfl⟩
      have ht1 : t.size ≤ m6 := by rw [HT.out, strOf_size, H6.out.1.1]; exact Nat.le_refl _
      have ht2 : m6 ≤ t.size := by rw [HT.out, strOf_size, H6.out.1.1]; exact Nat.le_refl _
      have hcv : (convert 30 9 (.slice A6 m6 c6)).run Tryd.prog w6 = .ok (.string t) w6 := by rw [HT.out]; exact H6.out.1.str
      go_wp2_with fail
      go_roundw
      case rel =>
        refine ⟨_, k + m6, by omega, rfl, ?_, ?_, Lib.hid ⟨?_, ?_, HI.out.2.2.trans H6.out.2.2⟩⟩
        · rw [ByteArray.size_append]; omega
        · rw [ByteArray.size_append]; omega
        · rw [HI.out.1, HT.out, strOf_append, take_part bs k C Q hk, HM6.out]
        · obtain ⟨P', h1, h2⟩ := H6.out.2.1
          rw [drop_part bs k C Q hk (by rw [HL.out]; exact hC), ← HM6.out] at h2
          exact ⟨P', h1, h2⟩
      case measure =>
        simp only [strLen, ByteArray.size_append]
        omega
    · have hkC : k = C := by omega
      have HS : Hid (s = strOf (bs.take C)) := Lib.hid (by rw [HI.out.1, hkC])
      obtain ⟨P, hP⟩ : ∃ P, Hid (Has wr w1.heap.size (fun k => k < w1.heap.size) w1.heap.size P ∧ LoAt P []) := by
        obtain ⟨P, h⟩ := HI.out.2.1
        rw [hkC, List.drop_of_length_le (by rw [List.length_take]; omega)] at h
        exact ⟨P, Lib.hid h⟩
      have HE6 : Hid (Errs wr ad) := Lib.hid (HE.out.below h3 (H1.out.trans ((HI.out.2.2.below (fun k h => h)).mono H1.out.size)))
      have HZ : Hid ((P.ws (1 - 0)).car = 0) := Lib.hid hP.out.2.car
      clear hkC
      go_wp2_with fail
      with_reducible refine (h_read_cut ad _ 0 0 rfl 1 1 rfl wr HE6.out hP.out.1 (by omega) hP.out.2.cut HZ.out).mono ?_
      rintro x w6 ⟨rfl, n6, rfl⟩
      have HH6 := Lib.hid (hP.out.1.stay (Stay.drewN wr n6))
      have HFL := Lib.hid hP.out.2.flight
      have c1 := HE6.out.cell 1 (by omega)
      have heq := fun w' => eql_same (ad 1) w'
      have hCc : C ≤ c := by omega
      have hcv : (convert 30 9 (.slice A C c)).run Tryd.prog (wr.drewN n6) = .ok (.string s) (wr.drewN n6) := by
        have hb : Below w.heap.size w (wr.drewN n6) := below_drewN (H1.out.trans ((HI.out.2.2.below (fun k h => h)).mono H1.out.size)) n6
        have := ((HR.out.take C).below hb)
        rw [← List.map_take] at this
        rw [HS.out]
        exact this.toStr C c (by rw [List.length_take, HL.out]; omega)
      go_wp2_with fail
      with_reducible refine (h_flight _ 1 1 rfl _ HH6.out (by omega)).mono ?_
      rintro x w7 ⟨rfl, n7, rfl⟩
      rw [HFL.out]
      go_wp2_with fail
      go_ret
      exact ⟨rfl, below_drewN (H1.out.trans ((HI.out.2.2.below (fun k h => h)).mono H1.out.size)) _⟩
end Go.Proofs.YtlceemaannndbaaDoor
