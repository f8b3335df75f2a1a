/- What jackfieldnum's Bytes and Kept answer. -/
import Derived.Test.YtmhfhdbaeijcfaaDoorRpu
import Derived.Deep.QuietTactic
import Derived.LoopTactic
import Derived.OwnWalk
namespace Go.Proofs.YtmhfhdbaeijcfaaDoor
open Go.RowKit
open Go.Proofs.YtmhfhdbaeijcfaaDoor.H

def marks : List UInt8 := [201, 202, 203, 204, 205, 206]
theorem marks_new (w : World) : Rd (w.alloc (.cells #[.int .u8 201, .int .u8 202, .int .u8 203, .int .u8 204, .int .u8 205, .int .u8 206] 5)) (w.heap.size + 1) (some ⟨w.heap.size, 0, none⟩) (marks.map bv) := by
  refine .inr ⟨_, rfl, by simp, ?_⟩
  intro j u hj
  have e : (w.alloc (.cells #[.int .u8 201, .int .u8 202, .int .u8 203, .int .u8 204, .int .u8 205, .int .u8 206] 5)).cell? ⟨w.heap.size, j, none⟩ = _ := World.cell?_alloc_mark w _ 5 (0, 0) j
  have e2 : (⟨w.heap.size, 0, none⟩ : Addr).add j = ⟨w.heap.size, j, none⟩ := by simp [Addr.add]; omega
  rw [e2, e, ← hj]
  simp [marks, bv]

set_option maxRecDepth 100000 in
set_option maxHeartbeats 2000000 in
theorem bytes_new (n cap : Nat) (A : Option Addr) (bs : List UInt8) (w : World) (hn : bs.length = n) (hbig : n ≤ 140737488351232) (hr : Rd w w.heap.size A (bs.map bv)) :
    Calls Tryd.prog 23 #[.slice A n cap] w fun e w' => ∃ X c, e = .returned (.slice X n c) ∧ Hid (n + 6 ≤ c ∧ c ≤ maxLen ∧ Rd w' w'.heap.size X ((bs ++ marks).map bv) ∧ Below w.heap.size w w' ∧ ∀ ad, X = some ad → w.heap.size ≤ ad.block) := by
  have HN := Lib.hid hn
  have HR := Lib.hid hr
  clear hn hr
  obtain ⟨i0, hi0, hz0, hz1, hz2⟩ := info_parts' u8_info
  have HI := Lib.hid (And.intro hi0 (And.intro hz0 (And.intro hz1 hz2)))
  clear hi0 hz0 hz1 hz2
  go_enter Tryd.func23, Tryd.ntmps23
  go_wp2_with (first
    | (refine wpList_make_own _ rfl _ _ 23 rfl w.heap.size 5 i0 _ 1 Tryd.underlying23 HI.out.1 HI.out.2.1 HI.out.2.2.1 .i64 .i64 _ (n + 6) rfl rfl rfl (by rw [HI.out.2.2.2]; omega) (by simp only [maxLen]; omega) (Nat.le_refl _) ?_
       intro w2 hown2 hg2
       have HB2 := Lib.hid ((Below.refl w.heap.size w).grown hg2 (Nat.le_refl _) (fun k hk => by cases hk)))
    | (refine H.wl_append rfl (.tmp 7) (.tmp 8) rfl w.heap.size _ 0 [] rfl hown2 w.heap.size A n cap bs rfl HN.out (HR.out.below HB2.out) (by omega) HB2.out.size ?_
       intro v3 w3 HA3
       have hown3 := HA3.out.1
       have hg3 := HA3.out.2
       have HB3 := Lib.hid (HB2.out.grown hg3 HB2.out.size (fun j hj => (hown2.lt j hj).1)))
    | (refine H.wl_append rfl (.tmp 9) (.tmp 10) rfl w.heap.size _ (0 + n) ([] ++ bs.map bv) rfl (hown3.alloc _) (w3.heap.size + 1) (some ⟨w3.heap.size, 0, none⟩) 6 6 marks rfl rfl (marks_new w3) (by omega) (by have := HB3.out.size; simp; omega) ?_
       intro v4 w4 HA4
       have hown4 := HA4.out.1
       have hg4 := HA4.out.2
       have hbA := HB3.out.alloc HB3.out.size (.cells #[.int .u8 201, .int .u8 202, .int .u8 203, .int .u8 204, .int .u8 205, .int .u8 206] 5)
       have HB4 := Lib.hid (hbA.grown hg4 hbA.size (fun j hj => (hown3.lt j hj).1))
       rw [List.nil_append, ← List.map_append, Nat.zero_add] at hown4
       obtain ⟨X, c, rfl, _, hc, hm, hrd, _⟩ := own_slice hown4
       have HXN : Hid (∀ ad, X = some ad → w.heap.size ≤ ad.block) := Lib.hid (fun ad e => (hown4.lt ad.block (by rw [e]; rfl)).1)
       have HX := Lib.hid hrd
       have hm' : c ≤ 9223372036854775807 := hm
       clear hrd hm hown4 hg4 HA4 hbA))
  go_ret
  exact ⟨_, _, rfl, Lib.hid ⟨hc, hm', HX.out, HB4.out, HXN.out⟩⟩
theorem bytes_any (n cap : Nat) (A : Option Addr) (bs : List UInt8) (w : World) (hn : bs.length = n) (hbig : n ≤ 140737488351232) (hr : Rd w w.heap.size A (bs.map bv)) :
    Calls Tryd.prog 23 #[.slice A n cap] w fun e w' => ∃ X c, e = .returned (.slice X n c) ∧ Hid (n + 6 ≤ c ∧ c ≤ maxLen ∧ Rd w' w'.heap.size X ((bs ++ marks).map bv) ∧ Below w.heap.size w w') := by
  refine (bytes_new n cap A bs w hn hbig hr).mono ?_
  rintro e w' ⟨X, c, h1, h2⟩
  exact ⟨X, c, h1, Lib.hid ⟨h2.out.1, h2.out.2.1, h2.out.2.2.1, h2.out.2.2.2.1⟩⟩

set_option maxRecDepth 100000 in
set_option maxHeartbeats 2000000 in
theorem kept_any (n c cap : Nat) (X A : Option Addr) (bs : List UInt8) (w : World) (hn : bs.length = n) (hbig : n ≤ 140737488351232) (hc : n + 6 ≤ c) (hcm : c ≤ maxLen) (hx : Rd w w.heap.size X ((bs ++ marks).map bv)) (hr : Rd w w.heap.size A (bs.map bv)) :
    Calls Tryd.prog 25 #[.slice X n c, .slice A n cap] w fun e w' => e = .returned (.bool true) ∧ Below w.heap.size w w' := by
  have hcm' : c ≤ 9223372036854775807 := hcm
  clear hcm
  have hX : ∃ ad, X = some ad := by
    rcases hx with h | ⟨ad, h, _⟩
    · simp [marks] at h
    · exact ⟨ad, h⟩
  obtain ⟨ad, rfl⟩ := hX
  have HCEL : Hid (∀ k : Nat, k < 6 → w.cell? (ad.add (n + k)) = some (.int .u8 (201 + (k : Int)))) := Lib.hid (by
    intro k hk
    obtain ⟨ad', h1, _, h3⟩ := hx.cell (k := n + k) (u := .int .u8 (201 + (k : Int))) (by
      rw [List.getElem?_map, List.getElem?_append_right (by omega), hn, Nat.add_sub_cancel_left]
      match k, hk with
      | 0, _ => rfl
      | 1, _ => rfl
      | 2, _ => rfl
      | 3, _ => rfl
      | 4, _ => rfl
      | 5, _ => rfl)
    injection h1 with h1
    rw [h1]
    exact h3)
  have hst1 := fun m : Nat => Rd.toStr (bs := bs) (w := w.drewN m) (B := w.heap.size) (A := some ad) (by
    have := (hx.take n).drewN m
    rwa [← List.map_take, List.take_append_of_le_length (by omega), List.take_of_length_le (by omega)] at this) n c hn
  have hst2 := fun m : Nat => Rd.toStr (bs := bs) (w := w.drewN m) (B := w.heap.size) (A := A) (hr.drewN m) n cap hn
  have HN := Lib.hid hn
  clear hn hx hr
  have hI1 : IntKind.i64.wrap ((n : Int) + 6) = (n : Int) + 6 := by rw [IntKind.wrap_i64]; omega
  have hI2 : decide ((c : Int) < (n : Int) + 6) = false := by simp; omega
  go_enter Tryd.func25, Tryd.ntmps25
  go_wp2_with fail
  go_quiet (fail)
  clear hst1 hst2
  go_wp2_with fail
  go_loop [6] (fun i => ∃ k : Nat, k ≤ 6 ∧ i = .int .i64 k) (fun i => 6 - (intOf i).toNat)
  case atStart => exact ⟨0, Nat.zero_le _, rfl⟩
  case round =>
    obtain ⟨k, hk, rfl⟩ := hrel
    by_cases hlt : k < 6
    · have hcl : (w.drewN nq).cell? (ad.add (n + k)) = some (.int .u8 (201 + (k : Int))) := HCEL.out k hlt
      have hI3 : IntKind.i64.wrap ((n : Int) + (k : Int)) = ((n + k : Nat) : Int) := by rw [IntKind.wrap_i64]; omega
      have hI4 : IntKind.i64.wrap (201 + (k : Int)) = 201 + (k : Int) := by rw [IntKind.wrap_i64]; omega
      have hI5 : IntKind.u8.wrap (201 + (k : Int)) = 201 + (k : Int) := by rw [IntKind.wrap_u8]; omega
      go_wp2_with fail
      exact ⟨⟨k + 1, by omega, by go_num⟩, by simp [intOf]; omega⟩
    · go_wp2_with fail
      go_ret
      exact ⟨rfl, below_drewN (Below.refl _ _) _⟩
end Go.Proofs.YtmhfhdbaeijcfaaDoor
