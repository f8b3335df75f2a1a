/- The law DrumImages: a drum of another one's image reads as that one, and writes to it don't come to the other. -/
import Derived.Test.YtadhgdjgpanddaaDoorDarkw
import Derived.Deep.RegionWith
namespace Go.Proofs.YtadhgdjgpanddaaDoor
open Go.RowKit

theorem zeros_lit : (#[.int .u8 0, .int .u8 0, .int .u8 0, .int .u8 0, .int .u8 0, .int .u8 0, .int .u8 0, .int .u8 0, .int .u8 0, .int .u8 0, .int .u8 0, .int .u8 0, .int .u8 0, .int .u8 0, .int .u8 0, .int .u8 0, .int .u8 0, .int .u8 0, .int .u8 0, .int .u8 0, .int .u8 0, .int .u8 0, .int .u8 0, .int .u8 0, .int .u8 0, .int .u8 0, .int .u8 0, .int .u8 0, .int .u8 0, .int .u8 0, .int .u8 0, .int .u8 0, .int .u8 0, .int .u8 0, .int .u8 0, .int .u8 0, .int .u8 0, .int .u8 0, .int .u8 0, .int .u8 0, .int .u8 0, .int .u8 0, .int .u8 0, .int .u8 0, .int .u8 0, .int .u8 0, .int .u8 0, .int .u8 0, .int .u8 0, .int .u8 0, .int .u8 0, .int .u8 0, .int .u8 0, .int .u8 0, .int .u8 0, .int .u8 0, .int .u8 0, .int .u8 0, .int .u8 0, .int .u8 0, .int .u8 0, .int .u8 0, .int .u8 0, .int .u8 0] : Array Value) = (zeros64.map bv).toArray := rfl
def filled (b : UInt8) (k : Nat) : List UInt8 := List.replicate k b ++ List.replicate (64 - k) 0
theorem filled_length (b : UInt8) (k : Nat) (h : k ≤ 64) : (filled b k).length = 64 := by simp [filled]; omega
theorem filled_next (b : UInt8) (k : Nat) (h : k < 64) : (filled b k).set k b = filled b (k + 1) := by
  unfold filled
  rw [List.set_append_right _ _ (by simp), List.length_replicate, Nat.sub_self, show 64 - k = (64 - (k + 1)) + 1 by omega, List.replicate_succ, List.set_cons_zero, List.replicate_succ', List.append_assoc]
  rfl
/-- Two drums, one with the other's image. -/
structure TwoW (ad : Nat → Addr) (w W : World) (g h g2 h2 : Nat) (D E : Dm) : Prop where
  d : DrumAt W g h D
  c : DrumAt W g2 h2 E
  ne : g ≠ g2 ∧ g ≠ h2 ∧ h ≠ g2 ∧ h ≠ h2
  lo : w.heap.size ≤ g ∧ w.heap.size ≤ h ∧ w.heap.size ≤ g2 ∧ w.heap.size ≤ h2
  below : Below w.heap.size w W
theorem TwoW.under {ad : Nat → Addr} {w W W' : World} {g h g2 h2 : Nat} {D E : Dm} (H : TwoW ad w W g h g2 h2 D E) (hb : Below W.heap.size W W') : TwoW ad w W' g h g2 h2 D E := ⟨H.d.under hb, H.c.under hb, H.ne, H.lo, H.below.trans (hb.mono H.below.size)⟩
theorem TwoW.next {ad : Nat → Addr} {w W W' : World} {g h g2 h2 : Nat} {D E E' : Dm} (H : TwoW ad w W g h g2 h2 D E) (hc : DrumAt W' g2 h2 E') (ht : Turn (Two g2 h2) W W') : TwoW ad w W' g h g2 h2 D E' :=
  ⟨H.d.turn ht (not_two H.ne.1 H.ne.2.1) (not_two H.ne.2.2.1 H.ne.2.2.2), hc, H.ne, H.lo, H.below.trans (ht.below (by have := H.lo; rintro k (e | e) <;> omega) H.below.size)⟩
theorem im_block (n i : Nat) (bs b : List UInt8) (hb : bs.length = n * 64) (hi : i < n) (hl : b.length = 64) : (Dm.wrote { fresh n with all := bs } i b).block i = b := by
  show ((splice bs (i * 64) b).drop (i * 64)).take 64 = b
  unfold splice
  rw [List.drop_append, List.drop_of_length_le (by rw [List.length_take]; omega), List.nil_append, List.length_take, Nat.min_eq_left (by omega), Nat.sub_self, List.drop_zero, List.take_append_of_le_length (by omega), List.take_of_length_le (by omega)]
theorem im_read (g h n i : Nat) (bs b : List UInt8) (w : World) (H : DrumAt w g h (Dm.wrote { fresh n with all := bs } i b)) (hb : bs.length = n * 64) (hi : i < n) (hl : b.length = 64) :
    Calls Tryd.prog 19 #[.pointer (some ⟨g, 0, none⟩), .int .i64 (i : Int)] w fun x w' => ∃ A, x = .returned (.tuple #[.agg A, .nilIface]) ∧ Hid (A = (b.map bv).toArray ∧ Below w.heap.size w w') := by
  have := read_ok g i w H rfl hi
  rwa [im_block n i bs b hb hi hl] at this
theorem im_write (g h n i : Nat) (bs b : List UInt8) (A : Array Value) (w : World) (H : DrumAt w g h { fresh n with all := bs }) (hA : A = (b.map bv).toArray) (hi : i < n) (hl : b.length = 64) :
    Calls Tryd.prog 16 #[.pointer (some ⟨g, 0, none⟩), .int .i64 (i : Int), .agg A] w fun x w' => x = .returned .nilIface ∧ Hid (DrumAt w' g h (Dm.wrote { fresh n with all := bs } i b) ∧ Turn (Two g h) w w') :=
  write_ok g i A b w H hA hl rfl hi (fun h => by cases h) (by show 0 < _; omega)
theorem im_image (g h n : Nat) (bs : List UInt8) (w : World) (H : DrumAt w g h { fresh n with all := bs }) : Calls Tryd.prog 26 #[.pointer (some ⟨g, 0, none⟩)] w fun x w' => ∃ A n c, x = .returned (.slice A n c) ∧ Hid (New w w' A n c bs ∧ Below w.heap.size w w') := image_any g w H
theorem im_one (g h n i : Nat) (bs b : List UInt8) (w : World) (H : DrumAt w g h (Dm.wrote { fresh n with all := bs } i b)) : Calls Tryd.prog 25 #[.pointer (some ⟨g, 0, none⟩)] w fun x w' => x = .returned (.int .i64 1) ∧ w = w' := writes_any g w H
theorem im_none (g h n : Nat) (bs : List UInt8) (w : World) (H : DrumAt w g h { fresh n with all := bs }) : Calls Tryd.prog 25 #[.pointer (some ⟨g, 0, none⟩)] w fun x w' => x = .returned (.int .i64 0) ∧ w = w' := writes_any g w H

set_option maxHeartbeats 1000000 in
set_option maxRecDepth 100000 in
theorem images_any (ad : Nat → Addr) (A : Option Addr) (L c : Nat) (bs : List UInt8) (z1 : Int) (b2 : UInt8) (w : World) (hE : Errs w ad) (h2 : 2 ≤ w.heap.size) (hL : bs.length = L) (hLc : L ≤ c) (hcm : c ≤ 9223372036854775807) (hr : Rd w w.heap.size A (bs.map bv))
    (b0 : -9223372036854775808 ≤ z1) (b1 : z1 ≤ 9223372036854775807) :
    Calls Tryd.prog 5 #[.slice A L c, .int .i64 z1, .int .u8 (b2.toNat : Int)] w fun e w' => e = .returned (.bool true) ∧ Below w.heap.size w w' := by
  have HE := Lib.hid hE
  have HL := Lib.hid hL
  have HR := Lib.hid hr
  clear hE hL hr
  by_cases h0 : L = 0
  · subst h0
    go_enter Tryd.func5, Tryd.ntmps5
    go_wp2_with fail
    with_reducible refine (alive_any ad w HE.out h2).mono ?_
    rintro x w1 ⟨rfl, H1⟩
    go_wp2_with fail
    go_ret
    exact ⟨rfl, H1.out⟩
  have hq0 : ((L : Int) == 0) = false := by simp; omega
  by_cases h64 : L % 64 ≠ 0
  · have hq : ((L : Int).tmod 64 == 0) = false := by rw [Int.tmod_eq_emod_of_nonneg (by omega)]; simp; omega
    have hq2 : ((L : Int) % 64 == 0) = false := by simp; omega
    go_enter Tryd.func5, Tryd.ntmps5
    go_wp2_with fail
    with_reducible refine (alive_any ad w HE.out h2).mono ?_
    rintro x w1 ⟨rfl, H1⟩
    go_wp2_with fail
    go_ret
    exact ⟨rfl, H1.out⟩
  obtain ⟨n, hLn⟩ : ∃ n, L = n * 64 := ⟨L / 64, by omega⟩
  have hq : ((L : Int).tmod 64) = 0 := by rw [Int.tmod_eq_emod_of_nonneg (by omega)]; omega
  have hq' : ((L : Int) % 64) = 0 := by omega
  by_cases hbig : 12800 < L
  · have hbI : (12800 : Int) < (L : Int) := by omega
    clear hLn
    go_enter Tryd.func5, Tryd.ntmps5
    go_wp2_with fail
    with_reducible refine (alive_any ad w HE.out h2).mono ?_
    rintro x w1 ⟨rfl, H1⟩
    go_wp2_with fail
    go_ret
    exact ⟨rfl, H1.out⟩
  have hbI : ¬ (12800 : Int) < (L : Int) := by omega
  have hn1 : 1 ≤ n := by omega
  have hn2 : n ≤ 200 := by omega
  have hq6 : (L : Int).tdiv 64 = (n : Int) := by rw [div_nat _ (by omega)]; omega
  have hq7 : (L : Int) / 64 = (n : Int) := by omega
  have HLN := Lib.hid hLn
  clear hLn h0 h64 hbig
  go_enter Tryd.func5, Tryd.ntmps5
  go_wp2_with fail
  with_reducible refine (alive_any ad w HE.out h2).mono ?_
  rintro x w1 ⟨rfl, H1⟩
  have HR1 := Lib.hid ((HR.out.below H1.out).more H1.out.size)
  go_wp2_with fail
  with_reducible refine (from_ok n L c A bs w1 HL.out HLN.out hn1 (by omega) hLc hcm HR1.out).mono ?_
  rintro x w2 ⟨rfl, H2⟩
  go_wp2_with fail
  with_reducible refine (im_image _ _ n bs w2 H2.out.1).mono ?_
  rintro x w3 ⟨A3, n3, c3, rfl, H3⟩
  have hn3 : n3 = L := by rw [← H3.out.1.1, HL.out]
  obtain rfl := hn3
  have HN3 : Hid (n3 ≤ c3 ∧ c3 ≤ 9223372036854775807 ∧ Rd w3 w3.heap.size A3 (bs.map bv)) := Lib.hid ⟨H3.out.1.2.1, H3.out.1.2.2.1, H3.out.1.2.2.2.1⟩
  go_wp2_with fail
  with_reducible refine (from_ok n n3 c3 A3 bs w3 HL.out HLN.out hn1 (by omega) HN3.out.1 HN3.out.2.1 HN3.out.2.2).mono ?_
  rintro x w4 ⟨rfl, H4⟩
  have HZ : Hid (w.heap.size ≤ w1.heap.size ∧ w1.heap.size + 2 ≤ w3.heap.size) := Lib.hid (by have e1 := H1.out.size; have e2 := H2.out.1.row.lt; have e3 := H3.out.2.size; omega)
  have K4 : Hid (TwoW ad w w4 (w1.heap.size + 1) w1.heap.size (w3.heap.size + 1) w3.heap.size { fresh n with all := bs } { fresh n with all := bs }) := Lib.hid (by
    have hz := HZ.out
    exact ⟨(H2.out.1.under H3.out.2).under H4.out.2, H4.out.1, by omega, by omega, ((H1.out.trans (H2.out.2.mono hz.1)).trans (H3.out.2.mono (by have := H2.out.2.size; omega))).trans (H4.out.2.mono (by omega))⟩)
  generalize hg : w1.heap.size + 1 = g at *
  generalize hh : w1.heap.size = h at *
  generalize hg2 : w3.heap.size + 1 = g2 at *
  generalize hh2 : w3.heap.size = h3 at *
  clear hg hh hg2 hh2 HZ H2 H3 H4 HN3
  obtain ⟨t, HT⟩ : ∃ t, Hid (t = strOf bs) := ⟨_, Lib.hid rfl⟩
  have HST : Hid (∀ w', Below w.heap.size w w' → (convert 22 9 (.slice A n3 c)).run Tryd.prog w' = .ok (.string t) w') := Lib.hid (fun w' hb => by rw [HT.out]; exact (HR.out.below hb).toStr _ _ HL.out)
  go_wp2_with fail
  have HZL : Hid (zeros64.length = 64) := Lib.hid rfl
  have HZA : Hid (#[.int .u8 0, .int .u8 0, .int .u8 0, .int .u8 0, .int .u8 0, .int .u8 0, .int .u8 0, .int .u8 0, .int .u8 0, .int .u8 0, .int .u8 0, .int .u8 0, .int .u8 0, .int .u8 0, .int .u8 0, .int .u8 0, .int .u8 0, .int .u8 0, .int .u8 0, .int .u8 0, .int .u8 0, .int .u8 0, .int .u8 0, .int .u8 0, .int .u8 0, .int .u8 0, .int .u8 0, .int .u8 0, .int .u8 0, .int .u8 0, .int .u8 0, .int .u8 0, .int .u8 0, .int .u8 0, .int .u8 0, .int .u8 0, .int .u8 0, .int .u8 0, .int .u8 0, .int .u8 0, .int .u8 0, .int .u8 0, .int .u8 0, .int .u8 0, .int .u8 0, .int .u8 0, .int .u8 0, .int .u8 0, .int .u8 0, .int .u8 0, .int .u8 0, .int .u8 0, .int .u8 0, .int .u8 0, .int .u8 0, .int .u8 0, .int .u8 0, .int .u8 0, .int .u8 0, .int .u8 0, .int .u8 0, .int .u8 0, .int .u8 0, .int .u8 0] = (zeros64.map bv).toArray) := Lib.hid zeros_lit
  have HC : Hid (Calls Tryd.prog 26 #[.pointer (some ⟨g2, 0, none⟩)] w4.drew fun x w' => ∃ A n c, x = .returned (.slice A n c) ∧ Hid ((convert 22 9 (.slice A n c)).run Tryd.prog w' = .ok (.string t) w' ∧ Below w4.heap.size w4 w')) := Lib.hid
    ((im_image g2 h3 n bs w4.drew (K4.out.c.stay ⟨rfl, rfl, rfl, rfl⟩)).mono fun x w' ⟨A, n, c, hx, H⟩ => ⟨A, n, c, hx, Lib.hid ⟨by rw [HT.out]; exact H.out.1.str, (Below.refl _ _).drew.trans H.out.2⟩⟩)
  refine wp_region_held_drew (S := fun w' => (convert 22 9 (.slice A n3 c)).run Tryd.prog w' = .ok (.string t) w') (by kernel_rfl) (HST.out _ K4.out.below.drew) (fun hHeld => ?_)
  refine wpAnyH_take (i := 0) (v := .nilIface) rfl (by kernel_rfl) (by kernel_rfl) (by kernel_rfl) (fun _ _ _ h => h) (Or.inl ⟨by kernel_rfl, ?_⟩) (by assumption) ?_
  · (intro w' hSw; (try dsimp only at hSw); go_simp)
  simp only [Act.put, List.setIfInBounds_toArray, List.set_cons_zero, List.set_cons_succ]
  refine wpAnyH_take (i := 1) (v := .bool false) rfl (by kernel_rfl) (by kernel_rfl) (by kernel_rfl) (fun _ _ _ h => h) (Or.inl ⟨by kernel_rfl, ?_⟩) (by assumption) ?_
  · (intro w' hSw; (try dsimp only at hSw); go_simp)
  simp only [Act.put, List.setIfInBounds_toArray, List.set_cons_zero, List.set_cons_succ]
  refine wpAnyH_take (i := 2) (v := .bool false) rfl (by kernel_rfl) (by kernel_rfl) (by kernel_rfl) (fun _ _ _ h => h) (Or.inl ⟨by kernel_rfl, ?_⟩) (by assumption) ?_
  · (intro w' hSw; (try dsimp only at hSw); go_simp)
  simp only [Act.put, List.setIfInBounds_toArray, List.set_cons_zero, List.set_cons_succ]
  refine wpAnyH_take (i := 3) (v := .pointer (some ⟨g2, 0, none⟩)) rfl (by kernel_rfl) (by kernel_rfl) (by kernel_rfl) (fun _ _ _ h => h) (Or.inl ⟨by kernel_rfl, ?_⟩) (by assumption) ?_
  · (intro w' hSw; (try dsimp only at hSw); go_simp)
  simp only [Act.put, List.setIfInBounds_toArray, List.set_cons_zero, List.set_cons_succ]
  refine wpAnyH_take (i := 4) (v := .bool false) rfl (by kernel_rfl) (by kernel_rfl) (by kernel_rfl) (fun _ _ _ h => h) (Or.inl ⟨by kernel_rfl, ?_⟩) (by assumption) ?_
  · (intro w' hSw; (try dsimp only at hSw); go_simp)
  simp only [Act.put, List.setIfInBounds_toArray, List.set_cons_zero, List.set_cons_succ]
  refine wpAnyH_take (i := 5) (v := .bool false) rfl (by kernel_rfl) (by kernel_rfl) (by kernel_rfl) (fun _ _ _ h => h) (Or.inl ⟨by kernel_rfl, ?_⟩) (by assumption) ?_
  · (intro w' hSw; (try dsimp only at hSw); go_simp)
  simp only [Act.put, List.setIfInBounds_toArray, List.set_cons_zero, List.set_cons_succ]
  refine wpAnyH_take (i := 6) (v := .bool false) rfl (by kernel_rfl) (by kernel_rfl) (by kernel_rfl) (fun _ _ _ h => h) (Or.inl ⟨by kernel_rfl, ?_⟩) (by assumption) ?_
  · (intro w' hSw; (try dsimp only at hSw); go_simp)
  simp only [Act.put, List.setIfInBounds_toArray, List.set_cons_zero, List.set_cons_succ]
  refine wpAnyH_take (i := 7) (v := .pointer (some ⟨g2, 0, none⟩)) rfl (by kernel_rfl) (by kernel_rfl) (by kernel_rfl) (fun _ _ _ h => h) (Or.inl ⟨by kernel_rfl, ?_⟩) (by assumption) ?_
  · (intro w' hSw; (try dsimp only at hSw); go_simp)
  simp only [Act.put, List.setIfInBounds_toArray, List.set_cons_zero, List.set_cons_succ]
  refine wpAnyH_take (i := 10) (v := .slice A n3 c) rfl (by kernel_rfl) (by kernel_rfl) (by kernel_rfl) (fun _ _ _ h => h) (Or.inl ⟨by kernel_rfl, ?_⟩) (by assumption) ?_
  · (intro w' hSw; (try dsimp only at hSw); go_simp)
  simp only [Act.put, List.setIfInBounds_toArray, List.set_cons_zero, List.set_cons_succ]
  refine wpAnyH_take (i := 11) (v := .string t) rfl (by kernel_rfl) (by kernel_rfl) (by kernel_rfl) (fun _ _ _ h => h) (Or.inl ⟨by kernel_rfl, ?_⟩) (by assumption) ?_
  · (intro w' hSw; (try dsimp only at hSw); go_simp)
  simp only [Act.put, List.setIfInBounds_toArray, List.set_cons_zero, List.set_cons_succ]
  refine wpAnyH_ready (rs := [8]) (by kernel_rfl) (by simp) ?_
  refine AllReadyH.cons rfl (fun K hK => ?_) AllReadyH.nil
  go_simp
  with_reducible refine HC.out.mono ?_
  rintro e w5 ⟨A5, n5, c5, rfl, HV5⟩
  refine hK.out _ _ (HST.out _ (K4.out.below.trans (HV5.out.2.mono K4.out.below.size))) (fun hHeld => ?_)
  clear hK K
  (try simp only [Act.put, List.setIfInBounds_toArray, List.set_cons_zero, List.set_cons_succ])
  have hcv5 := HV5.out.1
  refine wpAnyH_ready (rs := [9]) (by kernel_rfl) (by simp) ?_
  refine AllReadyH.cons rfl (fun K hK => ?_) AllReadyH.nil
  go_simp
  clear hcv5
  refine hK.out _ _ (HST.out _ (K4.out.below.trans (HV5.out.2.mono K4.out.below.size))) (fun hHeld => ?_)
  clear hK K
  (try simp only [Act.put, List.setIfInBounds_toArray, List.set_cons_zero, List.set_cons_succ])
  refine wpAnyH_take (i := 12) (v := .bool false) rfl (by kernel_rfl) (by kernel_rfl) (by kernel_rfl) (fun _ _ _ h => h) (Or.inl ⟨by kernel_rfl, ?_⟩) (by assumption) ?_
  · (intro w' hSw; (try dsimp only at hSw); go_simp)
  simp only [Act.put, List.setIfInBounds_toArray, List.set_cons_zero, List.set_cons_succ]
  refine wpAnyH_take (i := 13) (v := .bool false) rfl (by kernel_rfl) (by kernel_rfl) (by kernel_rfl) (fun _ _ _ h => h) (Or.inl ⟨by kernel_rfl, ?_⟩) (by assumption) ?_
  · (intro w' hSw; (try dsimp only at hSw); go_simp)
  simp only [Act.put, List.setIfInBounds_toArray, List.set_cons_zero, List.set_cons_succ]
  refine wpAnyH_done (by kernel_rfl) ?_ _
  all_goals
    have K5 : Hid (TwoW ad w w5 g h g2 h3 { fresh n with all := bs } { fresh n with all := bs }) := Lib.hid (K4.out.under HV5.out.2)
    clear HV5 HC
    go_wp2_with (first
      | (refine wl_var rfl rfl rfl 11 rfl rfl (.tmp 70) rfl _ zeros64 HZL.out HZA.out rfl rfl ?_
         intro w6 H6))
    obtain ⟨i, hi0, hin⟩ := rest_nat z1 n (by omega) (by omega)
    have HI := Lib.hid hi0
    clear hi0
    simp only [HI.out]
    have HV : Hid (w5.heap.size ≠ g ∧ w5.heap.size ≠ h ∧ w5.heap.size ≠ g2 ∧ w5.heap.size ≠ h3 ∧ w.heap.size ≤ w5.heap.size) := Lib.hid (by
      have e1 := K5.out.d.row.lt; have e2 := K5.out.d.blk.lt; have e3 := K5.out.c.row.lt; have e4 := K5.out.c.blk.lt; have e5 := K5.out.below.size; omega)
    have K6 : Hid (TwoW ad w w6 g h g2 h3 { fresh n with all := bs } { fresh n with all := bs } ∧ Row w6 w5.heap.size 47 ((filled b2 0).map bv)) := Lib.hid ⟨K5.out.under H6.out.below, H6.out.row⟩
    generalize w5.heap.size = v at *
    clear K5 K4 H6
    go_loopw [71] (fun j W => ∃ k : Nat, k ≤ 64 ∧ j = .int .i64 k ∧ Hid (TwoW ad w W g h g2 h3 { fresh n with all := bs } { fresh n with all := bs } ∧ Row W v 47 ((filled b2 k).map bv))) (fun j _ => 64 - (intOf j).toNat)
    case atStart => exact ⟨0, by omega, rfl, K6⟩
    case round =>
      clear K6
      obtain ⟨k, hk, rfl, HK⟩ := hrel
      by_cases hlt : k < 64
      · have hkI : (k : Int) < 64 := by omega
        have cw : wr.cell? ⟨v, k, none⟩ = some (.int .u8 0) := by
          rw [HK.out.2.cell]
          unfold filled
          rw [List.map_append, List.getElem?_append_right (by simp), List.length_map, List.length_replicate, Nat.sub_self, List.getElem?_map, List.getElem?_replicate, if_pos (by omega)]
          rfl
        have fw := HK.out.2.frozen k
        go_wp2_with fail
        have HN : Hid (TwoW ad w (wr.setCell ⟨v, k, none⟩ (.int .u8 (b2.toNat : Int))) g h g2 h3 { fresh n with all := bs } { fresh n with all := bs } ∧ Row (wr.setCell ⟨v, k, none⟩ (.int .u8 (b2.toNat : Int))) v 47 ((filled b2 (k + 1)).map bv)) := Lib.hid (by
          have ht : Turn (fun j => j = v) wr (wr.setCell ⟨v, k, none⟩ (.int .u8 (b2.toNat : Int))) := (Turn.refl (fun j => j = v) wr).setCell ⟨v, k, none⟩ (fun _ => rfl) _
          have hv := HV.out
          refine ⟨⟨HK.out.1.d.turn ht (fun e => hv.1 e.symm) (fun e => hv.2.1 e.symm), HK.out.1.c.turn ht (fun e => hv.2.2.1 e.symm) (fun e => hv.2.2.2.1 e.symm), HK.out.1.ne, HK.out.1.lo, HK.out.1.below.trans (ht.below (fun j hj => by omega) HK.out.1.below.size)⟩, ?_⟩
          have h5 := HK.out.2.set k (.int .u8 (b2.toNat : Int))
          have e : ((filled b2 k).map bv).set k (.int .u8 (b2.toNat : Int)) = (filled b2 (k + 1)).map bv := by rw [← filled_next b2 k hlt, List.map_set]; rfl
          rwa [e] at h5)
        exact ⟨⟨k + 1, by omega, by go_num, HN⟩, by simp [intOf]; omega⟩
      · obtain ⟨F, HF⟩ : ∃ F, Shut (F = (filled b2 64).map bv) := ⟨_, ⟨rfl⟩⟩
        have HFL : Hid ((filled b2 64).length = 64) := Lib.hid (filled_length b2 64 (by omega))
        have HFS : Hid ((Tryd.prog.info? 47).map (·.size) = some F.length) := Lib.hid (by rw [HF.out]; exact (fact64 _ HFL.out).out.1)
        have HRW : Hid (Row wr v 47 F) := Lib.hid (by rw [HF.out, show (64 : Nat) = k by omega]; exact HK.out.2)
        have HST2 : Hid (∀ w', Below w.heap.size w w' → Row w' v 47 F → w'.rangeAt v 0 F ∧ (convert 22 9 (.slice A n3 c)).run Tryd.prog w' = .ok (.string t) w') := Lib.hid (fun w' hb hr => ⟨hr.all, HST.out w' hb⟩)
        have HC1 : Hid (Calls Tryd.prog 16 #[.pointer (some ⟨g2, 0, none⟩), .int .i64 (i : Int), .agg F.toArray] wr.drew fun x w' => x = .returned .nilIface ∧ Hid (TwoW ad w w' g h g2 h3 { fresh n with all := bs } (Dm.wrote { fresh n with all := bs } i (filled b2 64)) ∧ Row w' v 47 F)) := Lib.hid
          ((im_write g2 h3 n i bs (filled b2 64) F.toArray wr.drew (HK.out.1.c.stay ⟨rfl, rfl, rfl, rfl⟩) (by rw [HF.out]) hin HFL.out).mono fun x w' ⟨hx, H⟩ => ⟨hx, Lib.hid ⟨(HK.out.1.under (Below.refl _ _).drew).next H.out.1 H.out.2, H.out.2.row (show Row wr.drew v 47 F from HRW.out) (not_two HV.out.2.2.1 HV.out.2.2.2.1)⟩⟩)
        go_wp2_with fail
        refine wp_region_held_drew (S := fun w' => w'.rangeAt v 0 F ∧ (convert 22 9 (.slice A n3 c)).run Tryd.prog w' = .ok (.string t) w') (by kernel_rfl) (HST2.out _ HK.out.1.below.drew HRW.out) (fun hHeld => ?_)
        refine wpAnyH_take (i := 0) (v := .pointer (some ⟨g2, 0, none⟩)) rfl (by kernel_rfl) (by kernel_rfl) (by kernel_rfl) (fun _ _ _ h => h) (Or.inl ⟨by kernel_rfl, ?_⟩) (by assumption) ?_
        · (intro w' hSw; (try dsimp only at hSw); go_simp)
        simp only [Act.put, List.setIfInBounds_toArray, List.set_cons_zero, List.set_cons_succ]
        refine wpAnyH_take (i := 1) (v := .int .i64 (i : Int)) rfl (by kernel_rfl) (by kernel_rfl) (by kernel_rfl) (fun _ _ _ h => h) (Or.inl ⟨by kernel_rfl, ?_⟩) (by assumption) ?_
        · (intro w' hSw; (try dsimp only at hSw); go_simp)
        simp only [Act.put, List.setIfInBounds_toArray, List.set_cons_zero, List.set_cons_succ]
        refine wpAnyH_take (i := 2) (v := .agg F.toArray) rfl (by kernel_rfl) (by kernel_rfl) (by kernel_rfl) (fun _ _ _ h => h) (yieldsIf_load_mid (by kernel_rfl) 47 (.tmp 11) rfl v 0 rfl F _ (fun w' hSw => hSw.1) under47 rfl HFS.out) (by assumption) ?_
        simp only [Act.put, List.setIfInBounds_toArray, List.set_cons_zero, List.set_cons_succ]
        refine wpAnyH_ready (rs := [3]) (by kernel_rfl) (by simp) ?_
        refine AllReadyH.cons rfl (fun K hK => ?_) AllReadyH.nil
        go_simp
        with_reducible refine HC1.out.mono ?_
        rintro e w7 ⟨rfl, H7⟩
        refine hK.out _ _ (HST2.out _ H7.out.1.below H7.out.2) (fun hHeld => ?_)
        clear hK K
        (try simp only [Act.put, List.setIfInBounds_toArray, List.set_cons_zero, List.set_cons_succ])
        refine wpAnyH_take (i := 4) (v := .bool false) rfl (by kernel_rfl) (by kernel_rfl) (by kernel_rfl) (fun _ _ _ h => h) (Or.inl ⟨by kernel_rfl, ?_⟩) (by assumption) ?_
        · (intro w' hSw; (try dsimp only at hSw); go_simp)
        simp only [Act.put, List.setIfInBounds_toArray, List.set_cons_zero, List.set_cons_succ]
        refine wpAnyH_take (i := 5) (v := .bool false) rfl (by kernel_rfl) (by kernel_rfl) (by kernel_rfl) (fun _ _ _ h => h) (Or.inl ⟨by kernel_rfl, ?_⟩) (by assumption) ?_
        · (intro w' hSw; (try dsimp only at hSw); go_simp)
        simp only [Act.put, List.setIfInBounds_toArray, List.set_cons_zero, List.set_cons_succ]
        refine wpAnyH_take (i := 6) (v := .pointer (some ⟨g, 0, none⟩)) rfl (by kernel_rfl) (by kernel_rfl) (by kernel_rfl) (fun _ _ _ h => h) (Or.inl ⟨by kernel_rfl, ?_⟩) (by assumption) ?_
        · (intro w' hSw; (try dsimp only at hSw); go_simp)
        simp only [Act.put, List.setIfInBounds_toArray, List.set_cons_zero, List.set_cons_succ]
        refine wpAnyH_take (i := 9) (v := .slice A n3 c) rfl (by kernel_rfl) (by kernel_rfl) (by kernel_rfl) (fun _ _ _ h => h) (Or.inl ⟨by kernel_rfl, ?_⟩) (by assumption) ?_
        · (intro w' hSw; (try dsimp only at hSw); go_simp)
        simp only [Act.put, List.setIfInBounds_toArray, List.set_cons_zero, List.set_cons_succ]
        refine wpAnyH_take (i := 10) (v := .string t) rfl (by kernel_rfl) (by kernel_rfl) (by kernel_rfl) (fun _ _ _ h => h) (Or.inl ⟨by kernel_rfl, ?_⟩) (by assumption) ?_
        · (intro w' hSw; (try dsimp only at hSw); go_simp)
        simp only [Act.put, List.setIfInBounds_toArray, List.set_cons_zero, List.set_cons_succ]
        refine wpAnyH_ready (rs := [7]) (by kernel_rfl) (by simp) ?_
        refine AllReadyH.cons rfl (fun K hK => ?_) AllReadyH.nil
        go_simp
        with_reducible refine (im_image g h n bs w7 H7.out.1.d).mono ?_
        rintro e w8 ⟨A8, n8, c8, rfl, H8⟩
        have K8 : Hid (TwoW ad w w8 g h g2 h3 { fresh n with all := bs } (Dm.wrote { fresh n with all := bs } i (filled b2 64)) ∧ Row w8 v 47 F) := Lib.hid ⟨H7.out.1.under H8.out.2, H7.out.2.below H8.out.2 H7.out.2.lt⟩
        refine hK.out _ _ (HST2.out _ K8.out.1.below K8.out.2) (fun hHeld => ?_)
        clear hK K
        (try simp only [Act.put, List.setIfInBounds_toArray, List.set_cons_zero, List.set_cons_succ])
        have hcv8 : (convert 22 9 (.slice A8 n8 c8)).run Tryd.prog w8 = .ok (.string t) w8 := by rw [HT.out]; exact H8.out.1.str
        refine wpAnyH_ready (rs := [8]) (by kernel_rfl) (by simp) ?_
        refine AllReadyH.cons rfl (fun K hK => ?_) AllReadyH.nil
        go_simp
        clear hcv8
        refine hK.out _ _ (HST2.out _ K8.out.1.below K8.out.2) (fun hHeld => ?_)
        clear hK K
        (try simp only [Act.put, List.setIfInBounds_toArray, List.set_cons_zero, List.set_cons_succ])
        refine wpAnyH_take (i := 11) (v := .bool false) rfl (by kernel_rfl) (by kernel_rfl) (by kernel_rfl) (fun _ _ _ h => h) (Or.inl ⟨by kernel_rfl, ?_⟩) (by assumption) ?_
        · (intro w' hSw; (try dsimp only at hSw); go_simp)
        simp only [Act.put, List.setIfInBounds_toArray, List.set_cons_zero, List.set_cons_succ]
        refine wpAnyH_take (i := 12) (v := .bool false) rfl (by kernel_rfl) (by kernel_rfl) (by kernel_rfl) (fun _ _ _ h => h) (Or.inl ⟨by kernel_rfl, ?_⟩) (by assumption) ?_
        · (intro w' hSw; (try dsimp only at hSw); go_simp)
        simp only [Act.put, List.setIfInBounds_toArray, List.set_cons_zero, List.set_cons_succ]
        refine wpAnyH_done (by kernel_rfl) ?_ _
        have HBN : Hid (bs.length = n * 64) := Lib.hid (by rw [HL.out]; exact HLN.out)
        clear HC1 H7 H8
        go_wp2_with fail
        with_reducible refine (im_read g2 h3 n i bs (filled b2 64) w8 K8.out.1.c HBN.out hin HFL.out).mono ?_
        rintro e w9 ⟨A9, rfl, H9⟩
        go_wp2_with (first
          | (refine wl_var rfl rfl rfl 13 rfl rfl (.tmp 95) rfl _ (filled b2 64) HFL.out H9.out.1 rfl rfl ?_
             intro w10 H10
             have K10 : Hid (TwoW ad w w10 g h g2 h3 { fresh n with all := bs } (Dm.wrote { fresh n with all := bs } i (filled b2 64)) ∧ Row w10 v 47 F) := Lib.hid ⟨(K8.out.1.under H9.out.2).under H10.out.below, (K8.out.2.below H9.out.2 K8.out.2.lt).below H10.out.below (K8.out.2.below H9.out.2 K8.out.2.lt).lt⟩
             have HR10 : Hid (Row w10 w9.heap.size 47 F) := Lib.hid (by rw [HF.out]; exact H10.out.row)
             have HFA : Hid (∀ u : Value, u = .agg F.toArray → u = .agg ((filled b2 64).map bv).toArray) := Lib.hid (fun u hu => by rw [hu, HF.out]))
          | (refine wl_loadg rfl (.tmp 13) rfl w9.heap.size 0 rfl _ HR10.out.all HFS.out ?_
             intro v11 HV11)
          | (refine wl_loadg rfl (.tmp 11) rfl v 0 rfl _ K10.out.2.all HFS.out ?_
             intro v12 HV12)
          | (refine wl_same rfl .eql true eql_or (.tmp 100) (.tmp 101) rfl _ _ rfl rfl (filled b2 64) HFL.out (HFA.out _ HV11.out) (HFA.out _ HV12.out) ?_))
        with_reducible refine (im_one g2 h3 n i bs (filled b2 64) w10 K10.out.1.c).mono ?_
        rintro e w11 ⟨rfl, rfl⟩
        go_wp2_with fail
        with_reducible refine (im_none g h n bs w10 K10.out.1.d).mono ?_
        rintro e w11 ⟨rfl, rfl⟩
        go_wp2_with fail
        go_ret
        exact ⟨rfl, K10.out.1.below⟩
end Go.Proofs.YtadhgdjgpanddaaDoor
