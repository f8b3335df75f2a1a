/- What jackfieldnum's Bytes and Kept answer. -/
import Derived.Test.YtchnbknbccpmcaaDoorMem
import Derived.Deep.QuietTactic
import Derived.LoopTactic
import Derived.OwnWalk
namespace Go.Proofs.YtchnbknbccpmcaaDoor
open Go.RowKit

def marks : List UInt8 := [201, 202, 203, 204, 205, 206]
theorem marks_new (w : World) : Rd (w.alloc (.cells #[.int .u8 201, .int .u8 202, .int .u8 203, .int .u8 204, .int .u8 205, .int .u8 206] 5)) (w.heap.size + 1) (some ⟨w.heap.size, 0, none⟩) (marks.map bv) := by
  refine .inr ⟨_, rfl, by simp, ?_⟩
  intro j u hj
  have e : (w.alloc (.cells #[.int .u8 201, .int .u8 202, .int .u8 203, .int .u8 204, .int .u8 205, .int .u8 206] 5)).cell? ⟨w.heap.size, j, none⟩ = _ := World.cell?_alloc_mark w _ 5 (0, 0) j
  have e2 : (⟨w.heap.size, 0, none⟩ : Addr).add j = ⟨w.heap.size, j, none⟩ := by simp [Addr.add]; omega
  rw [e2, e, ← hj]
  simp [marks, bv]
theorem span_of_own {w : World} {base : Nat} {v : Value} {n : Nat} {bs : List UInt8} (h : w.ownsRow base 5 1 v n (bs.map bv)) : Span w v bs := by
  obtain ⟨hl, h⟩ := h
  simp at hl
  subst hl
  rcases h with ⟨rfl, h0⟩ | ⟨g, cap, cur, rfl, _, hc, h1, h2, h3, h4⟩
  · have : bs = [] := List.eq_nil_of_length_eq_zero h0
    subst this
    exact Span.nil w
  · simp at h3 h4
    refine ⟨_, cap, rfl, h1, h2, .inr ⟨g, 0, rfl, (Array.getElem?_eq_some_iff.1 hc).1, fun j u hj => ?_, fun j hj => ?_⟩⟩
    · rw [Nat.zero_add]
      unfold World.cell?
      simp only [hc]
      rw [← Array.getElem?_toList]
      have := hj
      rw [← h4, List.getElem?_take] at this
      split at this
      · exact this
      · simp at this
    · rw [Nat.zero_add]
      constructor
      · unfold World.cell?
        simp only [hc]
        rw [Array.getElem?_eq_getElem (by omega)]; rfl
      · unfold World.frozen?
        simp only [hc]
        simp

/-- A copy with marked room behind, in new blocks. -/
def Marked (w w' : World) (X : Option Addr) (n c : Nat) (bs : List UInt8) : Prop := n + 6 ≤ c ∧ c ≤ 9223372036854775807 ∧ Rd w' w'.heap.size X ((bs ++ marks).map bv) ∧ (∀ a, X = some a → w.heap.size ≤ a.block)
set_option maxHeartbeats 1000000 in
theorem bytes_any (n cap : Nat) (A : Option Addr) (bs : List UInt8) (w : World) (hn : bs.length = n) (hbig : n ≤ 140737488351232) (hr : Rd w w.heap.size A (bs.map bv)) :
    Calls Tryd.prog 10 #[.slice A n cap] w fun e w' => ∃ X c, e = .returned (.slice X n c) ∧ Hid (Marked w w' X n c bs ∧ Below w.heap.size w w') := by
  have HN := Lib.hid hn
  have HR := Lib.hid hr
  clear hn hr
  obtain ⟨i0, hi0, hz0, hz1, hz2⟩ := info_parts' u8_info
  have HI := Lib.hid (And.intro hi0 (And.intro hz0 (And.intro hz1 hz2)))
  clear hi0 hz0 hz1 hz2
  go_enter Tryd.func10, Tryd.ntmps10
  go_wp2_with (first
    | (refine wpList_make_own _ rfl _ _ 22 rfl w.heap.size 5 i0 _ 1 Tryd.underlying22 HI.out.1 HI.out.2.1 HI.out.2.2.1 .i64 .i64 _ (n + 6) rfl rfl rfl (by rw [HI.out.2.2.2]; omega) (by simp only [maxLen]; omega) (Nat.le_refl _) ?_
       intro w2 hown2 hg2
       have HS2 := Lib.hid (span_of_own (bs := []) hown2)
       have HB2 := Lib.hid ((Below.refl w.heap.size w).grown hg2 (Nat.le_refl _) (fun k hk => by cases hk))
       clear hown2 hg2)
    | (refine wl_append rfl (.tmp 7) (.tmp 8) rfl _ [] rfl HS2.out w.heap.size A n cap bs rfl HN.out (HR.out.below HB2.out) (by simp; omega) ?_
       intro v3 w3 HA3
       have HB3 : Hid (Below w.heap.size w w3) := Lib.hid (HB2.out.trans (HA3.out.2.1.below (fun k hk => by have e : w.heap.size = k := Option.some.inj hk; omega) HB2.out.size))
       have HO3 : Hid (∀ k, v3.ownBlock = some k → w.heap.size ≤ k) := Lib.hid (fun k hk => by
         rcases HA3.out.2.2 with h | ⟨k', h, hk'⟩
         · rw [h] at hk; have e : w.heap.size = k := Option.some.inj hk; omega
         · rw [h] at hk; have e : k' = k := Option.some.inj hk; have := HB2.out.size; omega)
       have HS3 : Hid (Span (w3.alloc (.cells #[.int .u8 201, .int .u8 202, .int .u8 203, .int .u8 204, .int .u8 205, .int .u8 206] 5)) v3 bs) := Lib.hid (by
         have h := HA3.out.1
         rw [List.nil_append] at h
         exact h.keep (by simp) (fun k hk => Below.heap_alloc _ _ _ (h.lt k hk))))
    | (refine wl_append rfl (.tmp 9) (.tmp 10) rfl _ bs rfl HS3.out (w3.heap.size + 1) (some ⟨w3.heap.size, 0, none⟩) 6 6 marks rfl rfl (marks_new w3) (by rw [HN.out]; omega) ?_
       intro v4 w4 HA4
       have HB4 : Hid (Below w.heap.size w w4) := Lib.hid ((HB3.out.alloc HB3.out.size (.cells #[.int .u8 201, .int .u8 202, .int .u8 203, .int .u8 204, .int .u8 205, .int .u8 206] 5)).trans (HA4.out.2.1.below (fun k hk => HO3.out k hk) (by have := HB3.out.size; simp; omega)))
       obtain ⟨X, c, ev, hc1, hc2, hrd⟩ := HA4.out.1.slice
       have HX := Lib.hid hrd
       have HO4 : Hid (∀ a, X = some a → w.heap.size ≤ a.block) := Lib.hid (fun a ha => by
         subst ha
         rw [ev] at HA4
         rcases HA4.out.2.2 with h | ⟨k', h, hk'⟩
         · exact HO3.out a.block (h.symm.trans rfl)
         · have e : a.block = k' := Option.some.inj h
           have := HB3.out.size
           simp at hk'
           omega)
       have hlen : (bs ++ marks).length = n + 6 := by rw [List.length_append, HN.out]; rfl
       rw [hlen] at hc1 ev
       subst ev
       clear hrd hlen HA4 HA3))
  go_ret
  exact ⟨_, _, rfl, Lib.hid ⟨⟨hc1, hc2, HX.out, HO4.out⟩, HB4.out⟩⟩

set_option maxHeartbeats 1000000 in
theorem kept_any (n c cap : Nat) (X A : Option Addr) (bs : List UInt8) (w : World) (hn : bs.length = n) (hbig : n ≤ 140737488351232) (hc : n + 6 ≤ c) (hcm : c ≤ 9223372036854775807) (hx : Rd w w.heap.size X ((bs ++ marks).map bv)) (hr : Rd w w.heap.size A (bs.map bv)) :
    Calls Tryd.prog 21 #[.slice X n c, .slice A n cap] w fun e w' => e = .returned (.bool true) ∧ ∃ m, w' = w.drewN m := by
  have hX : ∃ ad, X = some ad := by
    rcases hx with h | ⟨ad, h, _⟩
    · simp [marks] at h
    · exact ⟨ad, h⟩
  obtain ⟨ad, rfl⟩ := hX
  have HCEL : Hid (∀ k : Nat, k < 6 → w.cell? (ad.add (n + k)) = some (.int .u8 (201 + (k : Int)))) := Lib.hid (by
    intro k hk
    obtain ⟨ad', h1, _, h3⟩ := hx.cell (k := n + k) (u := .int .u8 (201 + (k : Int))) (by
      rw [List.getElem?_map, List.getElem?_append_right (by omega), hn, Nat.add_sub_cancel_left]
      match k, hk with
      | 0, _ => rfl
      | 1, _ => rfl
      | 2, _ => rfl
      | 3, _ => rfl
      | 4, _ => rfl
      | 5, _ => rfl)
    injection h1 with h1
    rw [h1]
    exact h3)
  have hst1 := fun m : Nat => Rd.toStr (bs := bs) (w := w.drewN m) (B := w.heap.size) (A := some ad) (by
    have := (hx.take n).keep (w' := w.drewN m) (fun _ _ => rfl)
    rwa [← List.map_take, List.take_append_of_le_length (by omega), List.take_of_length_le (by omega)] at this) n c hn
  have hst2 := fun m : Nat => Rd.toStr (bs := bs) (w := w.drewN m) (B := w.heap.size) (A := A) (hr.keep (fun _ _ => rfl)) n cap hn
  have HN := Lib.hid hn
  clear hn hx hr
  have hI1 : IntKind.i64.wrap ((n : Int) + 6) = (n : Int) + 6 := by rw [IntKind.wrap_i64]; omega
  have hI2 : decide ((c : Int) < (n : Int) + 6) = false := by simp; omega
  go_enter Tryd.func21, Tryd.ntmps21
  go_wp2_with fail
  go_quiet (fail)
  clear hst1 hst2
  go_wp2_with fail
  go_loop [6] (fun i => ∃ k : Nat, k ≤ 6 ∧ i = .int .i64 k) (fun i => 6 - (intOf i).toNat)
  case atStart => exact ⟨0, Nat.zero_le _, rfl⟩
  case round =>
    obtain ⟨k, hk, rfl⟩ := hrel
    by_cases hlt : k < 6
    · have hcl : (w.drewN nq).cell? (ad.add (n + k)) = some (.int .u8 (201 + (k : Int))) := HCEL.out k hlt
      have hI3 : IntKind.i64.wrap ((n : Int) + (k : Int)) = ((n + k : Nat) : Int) := by rw [IntKind.wrap_i64]; omega
      have hI4 : IntKind.i64.wrap (201 + (k : Int)) = 201 + (k : Int) := by rw [IntKind.wrap_i64]; omega
      have hI5 : IntKind.u8.wrap (201 + (k : Int)) = 201 + (k : Int) := by rw [IntKind.wrap_u8]; omega
      go_wp2_with fail
      exact ⟨⟨k + 1, by omega, by go_num⟩, by simp [intOf]; omega⟩
    · go_wp2_with fail
      go_ret
      exact ⟨rfl, _, rfl⟩
end Go.Proofs.YtchnbknbccpmcaaDoor
