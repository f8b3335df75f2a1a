/- frame.Get where the length that the bytes tell is not their length, or they are too few or too many: ErrFrame. -/
import Derived.Test.YtlmdafldggbiaaaDoorOpn
namespace Go.Proofs.YtlmdafldggbiaaaDoor
open Go.RowKit
open Go.Proofs.YtlmdafldggbiaaaDoor.H
attribute [local go_sem] F.run_store_f64

set_option maxRecDepth 100000 in
set_option maxHeartbeats 2000000 in
theorem get_size (n c : Nat) (A : Option Addr) (te : TypeId) (pe : Value) (w : World) (hE : w.cell? ⟨0, 0, none⟩ = some (.iface te pe)) (h20 : 20 ≤ w.heap.size) (hmax : n ≤ 9223372036854775807) (hb : n < 7 ∨ 1024 < n) :
    Calls Tryd.prog 18 #[.slice A n c] w fun e w' => e = .returned (.tuple #[.agg zeroC.toArray, .iface te pe]) ∧ Hid (Below w.heap.size w w') := by
  have HE := Lib.hid hE
  clear hE
  have HLZ : Hid ((Tryd.prog.info? 25).map (·.size) = some zeroC.length) := Lib.hid size25
  rcases hb with hb | hb
  · go_enter Tryd.func18, Tryd.ntmps18
    go_wp2_with (first
      | (refine wl_alloc (o := ⟨some 2, _, _, _, _, _⟩) rfl 25 rfl _ _ info25' ?_
         intro w1 HA1 HB1 HZ1))
    have z0 : w1.cell? ⟨w.heap.size, 0, none⟩ = some (.int .i64 0) := HA1.out.cell 0
    have z1 : w1.cell? ⟨w.heap.size, 1, none⟩ = some (.int .i64 0) := HA1.out.cell 1
    have z2 : w1.cell? ⟨w.heap.size, 2, none⟩ = some (.int .i64 0) := HA1.out.cell 2
    have z3 : w1.cell? ⟨w.heap.size, 3, none⟩ = some (.int .i64 0) := HA1.out.cell 3
    have z4 : w1.cell? ⟨w.heap.size, 4, none⟩ = some (.int .i64 0) := HA1.out.cell 4
    have z5 : w1.cell? ⟨w.heap.size, 5, none⟩ = some (.int .i64 0) := HA1.out.cell 5
    have z6 : w1.cell? ⟨w.heap.size, 6, none⟩ = some (.string ⟨#[]⟩) := HA1.out.cell 6
    have z7 : w1.cell? ⟨w.heap.size, 7, none⟩ = some (.string ⟨#[]⟩) := HA1.out.cell 7
    have z8 : w1.cell? ⟨w.heap.size, 8, none⟩ = some (.float .f64 0) := HA1.out.cell 8
    have z9 : w1.cell? ⟨w.heap.size, 9, none⟩ = some (.slice none 0 0) := HA1.out.cell 9
    have fzz : ∀ i, w1.frozen? ⟨w.heap.size, i, none⟩ = false := HA1.out.frozen
    have ce : w1.cell? ⟨0, 0, none⟩ = some (.iface te pe) := (HB1.out.cell (p := ⟨0, 0, none⟩) (show 0 < w.heap.size by omega)).trans HE.out
    go_wp2_with fail
    go_region
    all_goals
      change Exit.then _ _ _ _ (rezero w1 w.heap.size).drew
      have HRz : Hid (Row (rezero w1 w.heap.size).drew w.heap.size 25 zeroC) := Lib.hid (row_drew (rezero_row HA1.out))
      have HBz : Hid (Below w.heap.size w (rezero w1 w.heap.size).drew) := Lib.hid (rezero_below HB1.out (Nat.le_refl _)).drew
      generalize (rezero w1 w.heap.size).drew = wz at *
      clear z0 z1 z2 z3 z4 z5 z6 z7 z8 z9 fzz ce
      go_wp2_with fail
      refine bodyPost_ret (v := .tuple #[.agg zeroC.toArray, .iface te pe]) (results_cell_two Tryd.results18 _ wz w.heap.size 25 zeroC _ _ rfl rfl HRz.out under25.choose_spec rfl HLZ.out) rfl ?_
      exact ⟨rfl, HBz⟩
  · go_enter Tryd.func18, Tryd.ntmps18
    go_wp2_with (first
      | (refine wl_alloc (o := ⟨some 2, _, _, _, _, _⟩) rfl 25 rfl _ _ info25' ?_
         intro w1 HA1 HB1 HZ1))
    have z0 : w1.cell? ⟨w.heap.size, 0, none⟩ = some (.int .i64 0) := HA1.out.cell 0
    have z1 : w1.cell? ⟨w.heap.size, 1, none⟩ = some (.int .i64 0) := HA1.out.cell 1
    have z2 : w1.cell? ⟨w.heap.size, 2, none⟩ = some (.int .i64 0) := HA1.out.cell 2
    have z3 : w1.cell? ⟨w.heap.size, 3, none⟩ = some (.int .i64 0) := HA1.out.cell 3
    have z4 : w1.cell? ⟨w.heap.size, 4, none⟩ = some (.int .i64 0) := HA1.out.cell 4
    have z5 : w1.cell? ⟨w.heap.size, 5, none⟩ = some (.int .i64 0) := HA1.out.cell 5
    have z6 : w1.cell? ⟨w.heap.size, 6, none⟩ = some (.string ⟨#[]⟩) := HA1.out.cell 6
    have z7 : w1.cell? ⟨w.heap.size, 7, none⟩ = some (.string ⟨#[]⟩) := HA1.out.cell 7
    have z8 : w1.cell? ⟨w.heap.size, 8, none⟩ = some (.float .f64 0) := HA1.out.cell 8
    have z9 : w1.cell? ⟨w.heap.size, 9, none⟩ = some (.slice none 0 0) := HA1.out.cell 9
    have fzz : ∀ i, w1.frozen? ⟨w.heap.size, i, none⟩ = false := HA1.out.frozen
    have ce : w1.cell? ⟨0, 0, none⟩ = some (.iface te pe) := (HB1.out.cell (p := ⟨0, 0, none⟩) (show 0 < w.heap.size by omega)).trans HE.out
    go_wp2_with fail
    go_region
    all_goals
      change Exit.then _ _ _ _ (rezero w1 w.heap.size).drew
      have HRz : Hid (Row (rezero w1 w.heap.size).drew w.heap.size 25 zeroC) := Lib.hid (row_drew (rezero_row HA1.out))
      have HBz : Hid (Below w.heap.size w (rezero w1 w.heap.size).drew) := Lib.hid (rezero_below HB1.out (Nat.le_refl _)).drew
      generalize (rezero w1 w.heap.size).drew = wz at *
      clear z0 z1 z2 z3 z4 z5 z6 z7 z8 z9 fzz ce
      go_wp2_with fail
      refine bodyPost_ret (v := .tuple #[.agg zeroC.toArray, .iface te pe]) (results_cell_two Tryd.results18 _ wz w.heap.size 25 zeroC _ _ rfl rfl HRz.out under25.choose_spec rfl HLZ.out) rfl ?_
      exact ⟨rfl, HBz⟩

set_option maxRecDepth 100000 in
set_option maxHeartbeats 4000000 in
theorem get_told (p c : Nat) (b : Addr) (bs : List UInt8) (E : Nat → Value) (te : TypeId) (pe : Value) (w : World) (hE : Env w E te pe) (hE5 : F.Errs w E) (hn : bs.length = p + 4) (h3 : 3 ≤ p) (hp : p ≤ 1020) (hc : p + 4 ≤ c) (hcm : c ≤ 9223372036854775807) (hr : Rd w w.heap.size (some b) (bs.map bv)) (hne : (told bs : Int) ≠ (p : Int) - 2) :
    Calls Tryd.prog 18 #[.slice (some b) (p + 4) c] w fun e w' => e = .returned (.tuple #[.agg zeroC.toArray, .iface te pe]) ∧ Hid (Below w.heap.size w w') := by
  have HE := Lib.hid hE
  have HE5 := Lib.hid hE5
  have h20 := hE.size
  have HN := Lib.hid hn
  have HR := Lib.hid hr
  have HNE : Hid ((told (bs.take p) : Int) ≠ (p : Int) - 2) := Lib.hid (by unfold told; rw [List.take_take, Nat.min_eq_left (by omega)]; exact hne)
  have HL : Hid ((bs.take p).length = p) := Lib.hid (by rw [List.length_take, hn]; omega)
  clear hE hE5 hn hr hne
  have HLZ : Hid ((Tryd.prog.info? 25).map (·.size) = some zeroC.length) := Lib.hid size25
  go_enter Tryd.func18, Tryd.ntmps18
  go_wp2_with (first
    | (refine wl_alloc (o := ⟨some 2, _, _, _, _, _⟩) rfl 25 rfl _ _ info25' ?_
       intro w1 HA1 HB1 HZ1))
  have hz1 : w.heap.size < w1.heap.size := by rw [HZ1.out]; omega
  have HE1 := Lib.hid (HE.out.below h20 HB1.out)
  have HR1 := Lib.hid ((HR.out.below HB1.out).more (Nat.le_of_lt hz1))
  have HRT : Hid (Rd w1 w1.heap.size (some b) ((bs.take p).map bv)) := Lib.hid (by rw [List.map_take]; exact HR1.out.take p)
  have HCT : Hid (∀ (j : Nat) (u : Value), ((bs.take p).map bv)[j]? = some u → w1.cell? (b.add j) = some u) := Lib.hid (fun j u hj => by
    obtain ⟨ad, he, _, hcc⟩ := HRT.out.cell hj
    injection he with he
    rw [he]
    exact hcc)
  with_reducible refine (sealed_new p b (bs.take p) w1 HE1.out.kt HL.out (by omega) HRT.out HCT.out).mono ?_
  rintro e w2 ⟨A2, c2, rfl, HV2⟩
  have HB2 := Lib.hid (HB1.out.trans (HV2.out.2.mono (Nat.le_of_lt hz1)))
  have HA2 := Lib.hid (HA1.out.below HV2.out.2 hz1)
  have hz2 : w1.heap.size ≤ w2.heap.size := HV2.out.2.size
  have HR2 := Lib.hid ((HR1.out.below HV2.out.2).more hz2)
  have HS2 := Lib.hid HV2.out.1
  have HLS : Hid ((bs.take p ++ (digest (bs.take p)).take 4).length = p + 4) := Lib.hid (by rw [List.length_append, HL.out, List.length_take, digest_length]; rfl)
  clear HV2 HA1 HB1 HZ1 HE1 HR1
  go_wp2_with fail
  by_cases heq : bs.take p ++ (digest (bs.take p)).take 4 = bs
  · rw [heq] at HS2
    with_reducible refine (equal_same (p + 4) c2 c A2 (some b) bs w2 HN.out HS2.out HR2.out).mono ?_
    rintro e _ ⟨rfl, rfl⟩
    clear heq HLS
    have HE2 := Lib.hid (HE.out.below h20 HB2.out)
    have HE52 := Lib.hid (HE5.out.below h20 HB2.out)
    have HRT2 : Hid (Rd w2 w2.heap.size (some b) ((bs.take p).map bv)) := Lib.hid (by rw [List.map_take]; exact HR2.out.take p)
    go_wp2_with fail
    with_reducible refine (opened_bad p b (bs.take p) E te pe w2 HE2.out HE52.out HL.out h3 (by omega) HRT2.out HNE.out).mono ?_
    rintro e w3 ⟨tq, pq, rfl, HV3⟩
    have HB3 := Lib.hid (HB2.out.trans (HV3.out.mono HB2.out.size))
    have HA3 := Lib.hid (HA2.out.below HV3.out (by omega))
    have hz3 : w2.heap.size ≤ w3.heap.size := HV3.out.size
    clear HV3 HA2 HB2 HE2 HE52 HRT2 HR2 HS2
    go_wp2_with (first
      | (refine wl_alloc (o := ⟨some 6, _, _, _, _, _⟩) rfl 25 rfl _ _ info25' ?_
         intro w4 HA4 HB4 HZ4)
      | (refine wl_store rfl 25 (.tmp 6) (.tmp 35) rfl w3.heap.size _ zeroC rfl rfl rfl 25 _ HA4.out HLZ.out rfl zeroC_one ?_
         intro w5 HR5 HS5 HZ5))
    have hz4 : w3.heap.size < w4.heap.size := by rw [HZ4.out]; omega
    have hb35 : Below w3.heap.size w3 w5 := HB4.out.trans (HS5.out.below (Nat.le_refl _) (by omega))
    have HB5 := Lib.hid (HB3.out.trans (hb35.mono HB3.out.size))
    have HA5 := Lib.hid (HA3.out.below hb35 (by omega))
    have HE5f : Hid (w5.cell? ⟨0, 0, none⟩ = some (.iface te pe)) := Lib.hid (HE.out.below h20 HB5.out).ef
    clear HA4 HB4 HZ4 HR5 HS5 HZ5 hb35 HA3 HB3
    have z0 : w5.cell? ⟨w.heap.size, 0, none⟩ = some (.int .i64 0) := HA5.out.cell 0
    have z1 : w5.cell? ⟨w.heap.size, 1, none⟩ = some (.int .i64 0) := HA5.out.cell 1
    have z2 : w5.cell? ⟨w.heap.size, 2, none⟩ = some (.int .i64 0) := HA5.out.cell 2
    have z3 : w5.cell? ⟨w.heap.size, 3, none⟩ = some (.int .i64 0) := HA5.out.cell 3
    have z4 : w5.cell? ⟨w.heap.size, 4, none⟩ = some (.int .i64 0) := HA5.out.cell 4
    have z5 : w5.cell? ⟨w.heap.size, 5, none⟩ = some (.int .i64 0) := HA5.out.cell 5
    have z6 : w5.cell? ⟨w.heap.size, 6, none⟩ = some (.string ⟨#[]⟩) := HA5.out.cell 6
    have z7 : w5.cell? ⟨w.heap.size, 7, none⟩ = some (.string ⟨#[]⟩) := HA5.out.cell 7
    have z8 : w5.cell? ⟨w.heap.size, 8, none⟩ = some (.float .f64 0) := HA5.out.cell 8
    have z9 : w5.cell? ⟨w.heap.size, 9, none⟩ = some (.slice none 0 0) := HA5.out.cell 9
    have fzz : ∀ i, w5.frozen? ⟨w.heap.size, i, none⟩ = false := HA5.out.frozen
    have ce : w5.cell? ⟨0, 0, none⟩ = some (.iface te pe) := HE5f.out
    go_wp2_with fail
    go_region
    all_goals
      change Exit.then _ _ _ _ (rezero w5 w.heap.size).drew
      have HRz : Hid (Row (rezero w5 w.heap.size).drew w.heap.size 25 zeroC) := Lib.hid (row_drew (rezero_row HA5.out))
      have HBz : Hid (Below w.heap.size w (rezero w5 w.heap.size).drew) := Lib.hid (rezero_below HB5.out (Nat.le_refl _)).drew
      generalize (rezero w5 w.heap.size).drew = wz at *
      clear z0 z1 z2 z3 z4 z5 z6 z7 z8 z9 fzz ce
      go_wp2_with fail
      refine bodyPost_ret (v := .tuple #[.agg zeroC.toArray, .iface te pe]) (results_cell_two Tryd.results18 _ wz w.heap.size 25 zeroC _ _ rfl rfl HRz.out under25.choose_spec rfl HLZ.out) rfl ?_
      exact ⟨rfl, HBz⟩
  · with_reducible refine (equal_other (p + 4) (p + 4) c2 c A2 (some b) _ bs w2 HLS.out HN.out HS2.out HR2.out heq).mono ?_
    rintro e _ ⟨rfl, rfl⟩
    have HE2f : Hid (w2.cell? ⟨0, 0, none⟩ = some (.iface te pe)) := Lib.hid (HE.out.below h20 HB2.out).ef
    clear heq HLS HR2 HS2
    have z0 : w2.cell? ⟨w.heap.size, 0, none⟩ = some (.int .i64 0) := HA2.out.cell 0
    have z1 : w2.cell? ⟨w.heap.size, 1, none⟩ = some (.int .i64 0) := HA2.out.cell 1
    have z2 : w2.cell? ⟨w.heap.size, 2, none⟩ = some (.int .i64 0) := HA2.out.cell 2
    have z3 : w2.cell? ⟨w.heap.size, 3, none⟩ = some (.int .i64 0) := HA2.out.cell 3
    have z4 : w2.cell? ⟨w.heap.size, 4, none⟩ = some (.int .i64 0) := HA2.out.cell 4
    have z5 : w2.cell? ⟨w.heap.size, 5, none⟩ = some (.int .i64 0) := HA2.out.cell 5
    have z6 : w2.cell? ⟨w.heap.size, 6, none⟩ = some (.string ⟨#[]⟩) := HA2.out.cell 6
    have z7 : w2.cell? ⟨w.heap.size, 7, none⟩ = some (.string ⟨#[]⟩) := HA2.out.cell 7
    have z8 : w2.cell? ⟨w.heap.size, 8, none⟩ = some (.float .f64 0) := HA2.out.cell 8
    have z9 : w2.cell? ⟨w.heap.size, 9, none⟩ = some (.slice none 0 0) := HA2.out.cell 9
    have fzz : ∀ i, w2.frozen? ⟨w.heap.size, i, none⟩ = false := HA2.out.frozen
    have ce : w2.cell? ⟨0, 0, none⟩ = some (.iface te pe) := HE2f.out
    go_wp2_with fail
    go_region
    all_goals
      change Exit.then _ _ _ _ (rezero w2 w.heap.size).drew
      have HRz : Hid (Row (rezero w2 w.heap.size).drew w.heap.size 25 zeroC) := Lib.hid (row_drew (rezero_row HA2.out))
      have HBz : Hid (Below w.heap.size w (rezero w2 w.heap.size).drew) := Lib.hid (rezero_below HB2.out (Nat.le_refl _)).drew
      generalize (rezero w2 w.heap.size).drew = wz at *
      clear z0 z1 z2 z3 z4 z5 z6 z7 z8 z9 fzz ce
      go_wp2_with fail
      refine bodyPost_ret (v := .tuple #[.agg zeroC.toArray, .iface te pe]) (results_cell_two Tryd.results18 _ wz w.heap.size 25 zeroC _ _ rfl rfl HRz.out under25.choose_spec rfl HLZ.out) rfl ?_
      exact ⟨rfl, HBz⟩

/-- All of it: too few bytes, too many, or another length told. -/
theorem get_len (n c : Nat) (A : Option Addr) (bs : List UInt8) (E : Nat → Value) (te : TypeId) (pe : Value) (w : World) (hE : Env w E te pe) (hE5 : F.Errs w E) (hn : bs.length = n) (hc : n ≤ c) (hcm : c ≤ 9223372036854775807) (hr : Rd w w.heap.size A (bs.map bv)) (hne : (told bs : Int) ≠ (n : Int) - 6) :
    Calls Tryd.prog 18 #[.slice A n c] w fun e w' => e = .returned (.tuple #[.agg zeroC.toArray, .iface te pe]) ∧ Hid (Below w.heap.size w w') := by
  by_cases h : n < 7 ∨ 1024 < n
  · exact get_size n c A te pe w hE.ef hE.size (by omega) h
  · obtain ⟨p, rfl⟩ : ∃ p, n = p + 4 := ⟨n - 4, by omega⟩
    rcases hr with h0 | ⟨b, rfl, hb, hcc⟩
    · have : bs = [] := by simpa using h0
      subst this
      simp at hn
    · exact get_told p c b bs E te pe w hE hE5 hn (by omega) (by omega) hc hcm (.inr ⟨b, rfl, hb, hcc⟩) (by omega)
end Go.Proofs.YtlmdafldggbiaaaDoor
