/- What Image answers: a new slice of all bytes. -/
import Derived.Test.YtadhgdjgpanddaaDoorMake
import Derived.OwnWalk
namespace Go.Proofs.YtadhgdjgpanddaaDoor
open Go.RowKit

theorem span_of_own {w : World} {base : Nat} {v : Value} {n : Nat} {bs : List UInt8} (h : w.ownsRow base 5 1 v n (bs.map bv)) : Span w v bs := by
  obtain ⟨hl, h⟩ := h
  simp at hl
  subst hl
  rcases h with ⟨rfl, h0⟩ | ⟨g, cap, cur, rfl, _, hc, h1, h2, h3, h4⟩
  · have : bs = [] := List.eq_nil_of_length_eq_zero h0
    subst this
    exact Span.nil w
  · simp at h3 h4
    refine ⟨_, cap, rfl, h1, h2, .inr ⟨g, 0, rfl, (Array.getElem?_eq_some_iff.1 hc).1, fun j u hj => ?_, fun j hj => ?_⟩⟩
    · rw [Nat.zero_add]
      unfold World.cell?
      simp only [hc]
      rw [← Array.getElem?_toList]
      have := hj
      rw [← h4, List.getElem?_take] at this
      split at this
      · exact this
      · simp at this
    · rw [Nat.zero_add]
      constructor
      · unfold World.cell?
        simp only [hc]
        rw [Array.getElem?_eq_getElem (by omega)]; rfl
      · unfold World.frozen?
        simp only [hc]
        simp
/-- On the way: the first k blocks are there. -/
structure ImgAt (w W : World) (v : Value) (bs : List UInt8) : Prop where
  span : Span W v bs
  own : ∀ k, v.ownBlock = some k → w.heap.size ≤ k
  below : Below w.heap.size w W
theorem take_block (D : Dm) (k : Nat) : D.all.take ((k + 1) * 64) = D.all.take (k * 64) ++ D.block k := by
  rw [show (k + 1) * 64 = k * 64 + 64 by omega, List.take_add]
  rfl
set_option maxHeartbeats 1000000 in
theorem image_any {h : Nat} {D : Dm} (g : Nat) (w : World) (H : DrumAt w g h D) :
    Calls Tryd.prog 26 #[.pointer (some ⟨g, 0, none⟩)] w fun x w' => ∃ A n c, x = .returned (.slice A n c) ∧ Hid (New w w' A n c D.all ∧ Below w.heap.size w w') := by
  obtain ⟨i0, hi0, hz0, hz1, hz2⟩ := info_parts' u8_info
  have HI := Lib.hid (And.intro hi0 (And.intro hz0 (And.intro hz1 hz2)))
  have hn1 := H.ok.lo
  have hn2 := H.ok.hi
  have c3 := H.c3
  have HH := Lib.hid H
  have HLen := Lib.hid H.ok.len
  clear hi0 hz0 hz1 hz2 H
  go_enter Tryd.func26, Tryd.ntmps26
  go_wp2_with (first
    | (refine wpList_make_own _ rfl _ _ 22 rfl w.heap.size 5 i0 _ 1 Tryd.underlying22 HI.out.1 HI.out.2.1 HI.out.2.2.1 .i64 .i64 _ (D.n * 64) rfl rfl (by omega) (by rw [HI.out.2.2.2]; omega) (by simp only [maxLen]; omega) (Nat.le_refl _) ?_
       intro w2 hown2 hg2
       have HI2 : Hid (ImgAt w w2 (.slice (some ⟨w.heap.size, 0, none⟩) 0 (D.n * 64)) (D.all.take (0 * 64))) := Lib.hid ⟨span_of_own (bs := []) hown2, fun k hk => by have e : w.heap.size = k := Option.some.inj hk; omega, (Below.refl w.heap.size w).grown hg2 (Nat.le_refl _) (fun k hk => by cases hk)⟩
       have c3' : w2.cell? ⟨g, 3, none⟩ = some (.slice (some ⟨h, 0, none⟩) D.n D.n) := (HH.out.under HI2.out.below).c3
       clear hown2 hg2))
  clear c3 c3'
  go_loopw [3, 18] (fun v i W => ∃ k : Nat, k ≤ D.n ∧ i = .int .i64 k ∧ Hid (ImgAt w W v (D.all.take (k * 64)))) (fun _ i _ => D.n - (intOf i).toNat)
  case atStart => exact ⟨0, Nat.zero_le _, rfl, HI2⟩
  case round =>
    clear HI2
    obtain ⟨k, hk, rfl, HK⟩ := hrel
    obtain ⟨A0, c0, ev, hc1, hc2, hrd⟩ := HK.out.span.slice
    have HEV := Lib.hid ev
    have HC := Lib.hid (And.intro hc1 (And.intro hc2 hrd))
    by_cases hlt : k < D.n
    · obtain ⟨L, HL⟩ : ∃ L, Shut (L = (D.block k).map bv) := ⟨_, ⟨rfl⟩⟩
      have HLL : Shut (L.length = 64 ∧ (∀ v ∈ L, v.oneCell' = true) ∧ (Tryd.prog.info? 47).map (·.size) = some L.length) := ⟨by
        have h1 : L.length = 64 := by rw [HL.out, List.length_map, block_length HH.out.ok hlt]
        exact ⟨h1, by rw [HL.out]; exact bytes_one _, by rw [h1]; exact size47⟩⟩
      have HR : Hid (wr.rangeAt h (k * 64) L) := Lib.hid (by
        rw [HL.out]
        refine (HH.out.under HK.out.below).blk.range (es := ((D.all.drop (k * 64)).drop 64).map bv) ?_
        rw [← List.map_drop, ← List.map_append]
        unfold Dm.block
        rw [List.take_append_drop])
      have hii : (k : Int) < (D.n : Int) := by omega
      have hsl := fun w' : World => run_all w' 47 64 under47 wr.heap.size 0
      clear ev hc1 hc2 hrd
      go_wp2_with (first
        | (refine wl_load rfl 47 (.tmp 20) rfl h (k * 64) rfl L _ HR.out under47 rfl HLL.out.2.2 ?_
           intro v2 HV2)
        | (refine wl_alloc rfl 47 rfl 5 rfl _ _ info47 ?_
           intro w3 H3)
        | (refine wl_store rfl 47 (.tmp 5) (.tmp 21) rfl wr.heap.size 0 _ L rfl rfl HV2.out 47 _ H3.out.1 HLL.out.2.2 (by rw [HLL.out.1]; simp) HLL.out.2.1 ?_
           intro w4 H4
           have HZ4 : Hid (wr.heap.size < w4.heap.size) := Lib.hid (by rw [H4.out.2.2, H3.out.2.2]; omega)
           have HB4 : Hid (Below wr.heap.size wr w4) := Lib.hid (H3.out.2.1.trans (H4.out.2.1.below (fun j hj => by omega) H3.out.2.1.size))
           have HR4 : Hid (Rd w4 w4.heap.size (some ⟨wr.heap.size, 0, none⟩) ((D.block k).map bv)) := Lib.hid (by
             have h5 := H4.out.1
             have e : splice (List.replicate 64 (Value.int .u8 0)) 0 L = L := by simp [splice, HLL.out.1]
             rw [e, HL.out] at h5
             exact .inr ⟨_, rfl, HZ4.out, fun j u hj => by rw [Addr.add_mid, Nat.zero_add, h5.cell]; exact hj⟩)
           have HS4 := Lib.hid (HK.out.span.keep HB4.out.size (fun j hj => HB4.out.block j (HK.out.span.lt j hj)))
           clear H3 H4)
        | (refine wl_append rfl (.tmp 22) (.tmp 23) rfl _ (D.all.take (k * 64)) rfl HS4.out w4.heap.size (some ⟨wr.heap.size, 0, none⟩) 64 64 (D.block k) rfl (block_length HH.out.ok hlt) HR4.out (by rw [List.length_take]; omega) ?_
           intro v5 w5 H5))
      refine ⟨⟨k + 1, by omega, by go_num, Lib.hid ⟨by rw [take_block]; exact H5.out.1, fun j hj => ?_, (HK.out.below.trans (HB4.out.mono HK.out.below.size)).trans (H5.out.2.1.below (fun j hj => HK.out.own j hj) (Nat.le_trans HK.out.below.size HB4.out.size))⟩⟩, by simp [intOf]; omega⟩
      rcases H5.out.2.2 with e | ⟨j', e, hj'⟩
      · rw [e] at hj; exact HK.out.own j hj
      · rw [e] at hj; have e2 : j' = j := Option.some.inj hj; have := HK.out.below.size; have := HB4.out.size; omega
    · obtain rfl : k = D.n := by omega
      clear hrd
      subst ev
      go_wp2_with fail
      go_ret
      refine ⟨_, _, _, rfl, Lib.hid ⟨⟨?_, ?_, HC.out.2.1, ?_, fun a ha => ?_⟩, HK.out.below⟩⟩
      · rw [HLen.out]; omega
      · have h5 := HC.out.1
        rwa [List.length_take] at h5
      · have h5 := HC.out.2.2
        rwa [List.take_of_length_le (Nat.le_of_eq HLen.out)] at h5
      · subst ha
        exact HK.out.own a.block rfl
end Go.Proofs.YtadhgdjgpanddaaDoor
