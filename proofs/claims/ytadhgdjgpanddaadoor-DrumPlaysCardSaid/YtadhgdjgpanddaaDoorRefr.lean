/- The document's drum: writes that are refused, reads; a block of an operation; a copy of bytes. -/
import Derived.Test.YtadhgdjgpanddaaDoorRef
import Derived.Test.YtadhgdjgpanddaaDoorNum
import Derived.OwnWalk
namespace Go.Proofs.YtadhgdjgpanddaaDoor
open Go.RowKit

theorem zeros_lit2 : (#[.int .u8 0, .int .u8 0, .int .u8 0, .int .u8 0, .int .u8 0, .int .u8 0, .int .u8 0, .int .u8 0, .int .u8 0, .int .u8 0, .int .u8 0, .int .u8 0, .int .u8 0, .int .u8 0, .int .u8 0, .int .u8 0, .int .u8 0, .int .u8 0, .int .u8 0, .int .u8 0, .int .u8 0, .int .u8 0, .int .u8 0, .int .u8 0, .int .u8 0, .int .u8 0, .int .u8 0, .int .u8 0, .int .u8 0, .int .u8 0, .int .u8 0, .int .u8 0, .int .u8 0, .int .u8 0, .int .u8 0, .int .u8 0, .int .u8 0, .int .u8 0, .int .u8 0, .int .u8 0, .int .u8 0, .int .u8 0, .int .u8 0, .int .u8 0, .int .u8 0, .int .u8 0, .int .u8 0, .int .u8 0, .int .u8 0, .int .u8 0, .int .u8 0, .int .u8 0, .int .u8 0, .int .u8 0, .int .u8 0, .int .u8 0, .int .u8 0, .int .u8 0, .int .u8 0, .int .u8 0, .int .u8 0, .int .u8 0, .int .u8 0, .int .u8 0] : Array Value) = (zeros64.map bv).toArray := rfl
theorem rwrite_bad {h N : Nat} {D : Dm} (g : Nat) (z e : Int) (A : Array Value) (w : World) (H : RefAt w g h N D) (he : (e == 0) = false)
    (hf : ∀ w', RefAt w' g h N D → Calls Tryd.prog 29 #[.pointer (some ⟨g, 0, none⟩), .int .i64 z] w' fun x w'' => x = .returned (.int .i64 e) ∧ w' = w'') :
    Calls Tryd.prog 18 #[.pointer (some ⟨g, 0, none⟩), .int .i64 z, .agg A] w fun x w' => x = .returned (.int .i64 e) ∧ Hid (Below w.heap.size w w') := by
  have HB := Lib.hid ((Below.refl w.heap.size w).alloc (Nat.le_refl _) (.cells A 47))
  have HF := Lib.hid (hf _ (H.under HB.out))
  clear H hf
  go_enter Tryd.func18, Tryd.ntmps18
  go_wp2_with (first
    | (go_at_call 29; (with_reducible refine HF.out.mono ?_); rintro x w' ⟨rfl, rfl⟩))
  go_ret
  exact ⟨rfl, HB⟩
theorem rwrite_off {h N : Nat} {D : Dm} (g : Nat) (z : Int) (A : Array Value) (w : World) (H : RefAt w g h N D) (ho : D.off = true) :
    Calls Tryd.prog 18 #[.pointer (some ⟨g, 0, none⟩), .int .i64 z, .agg A] w fun x w' => x = .returned (.int .i64 6) ∧ Hid (Below w.heap.size w w') := rwrite_bad g z 6 A w H rfl (fun w' H' => ask_off g z w' H' ho)
theorem rwrite_range {h N : Nat} {D : Dm} (g : Nat) (z : Int) (A : Array Value) (w : World) (H : RefAt w g h N D) (ho : D.off = false) (hz : z < 0 ∨ (D.n : Int) ≤ z) :
    Calls Tryd.prog 18 #[.pointer (some ⟨g, 0, none⟩), .int .i64 z, .agg A] w fun x w' => x = .returned (.int .i64 1) ∧ Hid (Below w.heap.size w w') := rwrite_bad g z 1 A w H rfl (fun w' H' => ask_range g z w' H' ho hz)
theorem rwrite_power {h N : Nat} {D : Dm} (g i : Nat) (A : Array Value) (w : World) (H : RefAt w g h N D) (ho : D.off = false) (hi : i < D.n) (ha : D.armed = true) (hl : D.left = 0) :
    Calls Tryd.prog 18 #[.pointer (some ⟨g, 0, none⟩), .int .i64 (i : Int), .agg A] w fun x w' => x = .returned (.int .i64 6) ∧ Hid (RefAt w' g h N { D with off := true } ∧ Turn (Two g h) w w') := by
  have HB := Lib.hid ((Below.refl w.heap.size w).alloc (Nat.le_refl _) (.cells A 47))
  have H1 := Lib.hid (H.under HB.out)
  have c2 : (w.alloc (.cells A 47)).cell? ⟨g, 2, none⟩ = some (.int .i64 0) := by have := H1.out.c2; rwa [leftR, ha, hl] at this
  have c1 := H1.out.c1
  have f1 := H1.out.row.frozen 1
  have HR := Lib.hid (H1.out.set (D' := { D with off := true }) 1 (.bool true) rfl rfl rfl ⟨H.ok.lo, H.ok.hi, H.ok.len, H.ok.left, H.ok.writes⟩)
  have HO := Lib.hid ho
  clear H ho ha hl
  rw [HO.out] at c1
  generalize hW : w.alloc (.cells A 47) = W at *
  go_enter Tryd.func18, Tryd.ntmps18
  subst hW
  go_wp2_with (first
    | (go_at_call 29; (with_reducible refine (ask_ok g i _ H1.out HO.out hi).mono ?_); rintro x w' ⟨rfl, rfl⟩))
  go_ret
  exact ⟨rfl, Lib.hid ⟨HR.out, ((Turn.refl (Two g h) w).alloc _).trans (DrumAt.turn_set 1 _) (fun _ _ h => h)⟩⟩
theorem cut_min2 (N i L : Nat) (h : L = 64) (hf : i * 64 + 64 ≤ N) : L = Nat.min (N - (64 * (i : Int)).toNat) 64 := by
  have e : (64 * (i : Int)).toNat = i * 64 := by omega
  rw [e, h]
  show 64 = min (N - i * 64) 64
  omega
set_option maxHeartbeats 1000000 in
theorem rread_ok {h N : Nat} {D : Dm} (g i : Nat) (w : World) (H : RefAt w g h N D) (ho : D.off = false) (hi : i < D.n) :
    Calls Tryd.prog 20 #[.pointer (some ⟨g, 0, none⟩), .int .i64 (i : Int)] w fun x w' => ∃ A, x = .returned (.tuple #[.agg A, .int .i64 0]) ∧ Hid (A = ((D.block i).map bv).toArray ∧ Below w.heap.size w w') := by
  obtain ⟨L, HL⟩ : ∃ L, Shut (L = (D.block i).map bv) := ⟨_, ⟨rfl⟩⟩
  have HLL : Shut (L.length = 64 ∧ (∀ v ∈ L, v.oneCell' = true) ∧ (Tryd.prog.info? 47).map (·.size) = some L.length) := ⟨by
    have h1 : L.length = 64 := by rw [HL.out, List.length_map, block_length H.ok hi]
    exact ⟨h1, by rw [HL.out]; exact bytes_one _, by rw [h1]; exact size47⟩⟩
  have HR : Hid (∀ w', Below w.heap.size w w' → ∀ j v, L[j]? = some v → w'.cell? ((⟨h, i * 64, none⟩ : Addr).add j) = some v) := Lib.hid (fun w' hb => by
    rw [HL.out]
    have h1 : w'.rangeAt h (i * 64) ((D.block i).map bv) := by
      refine (H.under hb).blk.range (es := ((D.all.drop (i * 64)).drop 64).map bv) ?_
      rw [← List.map_drop, ← List.map_append]
      unfold Dm.block
      rw [List.take_append_drop]
    intro j v hj
    rw [Addr.add_mid]
    exact h1 j v hj)
  have HH := Lib.hid H
  have HO := Lib.hid ho
  have hNlt := H.nlt.1
  have hfit : i * 64 + 64 ≤ N := by have := H.n; omega
  have HZL : Hid (zeros64.length = 64) := Lib.hid rfl
  have HZA : Hid (#[.int .u8 0, .int .u8 0, .int .u8 0, .int .u8 0, .int .u8 0, .int .u8 0, .int .u8 0, .int .u8 0, .int .u8 0, .int .u8 0, .int .u8 0, .int .u8 0, .int .u8 0, .int .u8 0, .int .u8 0, .int .u8 0, .int .u8 0, .int .u8 0, .int .u8 0, .int .u8 0, .int .u8 0, .int .u8 0, .int .u8 0, .int .u8 0, .int .u8 0, .int .u8 0, .int .u8 0, .int .u8 0, .int .u8 0, .int .u8 0, .int .u8 0, .int .u8 0, .int .u8 0, .int .u8 0, .int .u8 0, .int .u8 0, .int .u8 0, .int .u8 0, .int .u8 0, .int .u8 0, .int .u8 0, .int .u8 0, .int .u8 0, .int .u8 0, .int .u8 0, .int .u8 0, .int .u8 0, .int .u8 0, .int .u8 0, .int .u8 0, .int .u8 0, .int .u8 0, .int .u8 0, .int .u8 0, .int .u8 0, .int .u8 0, .int .u8 0, .int .u8 0, .int .u8 0, .int .u8 0, .int .u8 0, .int .u8 0, .int .u8 0, .int .u8 0] = (zeros64.map bv).toArray) := Lib.hid zeros_lit2
  clear H ho
  go_enter Tryd.func20, Tryd.ntmps20
  go_wp2_with (first
    | (refine wl_alloc rfl 47 rfl 4 rfl _ _ info47 ?_
       intro w1 H1)
    | (refine wl_var rfl rfl rfl 6 rfl rfl (.tmp 8) rfl _ zeros64 HZL.out HZA.out rfl rfl ?_
       intro w2 H2
       have HB2 : Hid (Below w.heap.size w w2) := Lib.hid (H1.out.2.1.trans (H2.out.below.mono H1.out.2.1.size))
       have HD2 := Lib.hid (HH.out.under HB2.out)
       have HR1 := Lib.hid (H1.out.1.below H2.out.below (by rw [H1.out.2.2]; omega)))
    | (go_at_call 29; (with_reducible refine (ask_ok g i _ HD2.out HO.out hi).mono ?_); rintro x w' ⟨rfl, rfl⟩))
  have HV : Hid (w.heap.size < w1.heap.size ∧ w1.heap.size < w2.heap.size) := Lib.hid ⟨by rw [H1.out.2.2]; omega, by rw [H2.out.size]; omega⟩
  have HBK : Hid (Row w2.drew w1.heap.size 47 (zeros64.map bv)) := Lib.hid H2.out.row
  generalize w1.heap.size = v at *
  have c0 := HD2.out.c0
  have HSR := Lib.hid (HR.out w2.drew HB2.out.drew)
  have hI0 : (0 : Int) ≤ 64 * (i : Int) := by omega
  have hI1 : IntKind.i64.wrap (64 * (i : Int)) = 64 * (i : Int) := by rw [IntKind.wrap_i64]; omega
  have hI3 : 64 * (i : Int) ≤ (N : Int) := by omega
  have hsl1 := fun w' : World => run_all w' 47 64 under47 v 0
  go_region_law (refine step_copy' rfl (.tmp 14) (.tmp 21) rfl _ _ _ _ _ _ rfl rfl v 0 ⟨h, i * 64, none⟩ rfl (cut_addr N i h hfit) _ 47 HBK.out L (cut_min2 N i _ HLL.out.1 hfit) HSR.out (by rw [HLL.out.1]; simp [zeros64]) HLL.out.2.1 ?_; intro w7 HW7)
  clear hI0 hI1 hI3 hsl1 c0
  have HR7 : Hid (Row w7 v 47 L) := Lib.hid (by
    have h5 := HW7.out.1
    have e : splice (zeros64.map bv) 0 L = L := by simp [splice, HLL.out.1, zeros64]
    rwa [e] at h5)
  have HB7 : Hid (Below w.heap.size w w7) := Lib.hid (HB2.out.drew.trans (HW7.out.2.1.below (fun j hj => by have := HV.out.1; omega) HB2.out.size))
  have HR17 : Hid (Row w7 w.heap.size 47 (List.replicate 64 (.int .u8 0))) := Lib.hid (HW7.out.2.1.row (show Row w2.drew w.heap.size 47 _ from HR1.out) (by have := HV.out.1; omega))
  go_wp2_with (first
    | (refine wl_load rfl 47 (.tmp 6) rfl v 0 rfl L _ HR7.out.all under47 rfl HLL.out.2.2 ?_
       intro v8 HV8)
    | (refine wl_store rfl 47 (.tmp 4) (.tmp 23) rfl w.heap.size 0 _ L rfl rfl HV8.out 47 _ HR17.out HLL.out.2.2 (by rw [HLL.out.1]; simp) HLL.out.2.1 ?_
       intro w9 H9))
  refine bodyPost_ret (v := .tuple #[.agg L.toArray, .int .i64 0]) (results_cell_two Tryd.results20 _ w9 w.heap.size 47 L _ _ rfl rfl ?_ under47 rfl HLL.out.2.2) rfl ?_
  · have := H9.out.1
    have e : splice (List.replicate 64 (Value.int .u8 0)) 0 L = L := by simp [splice, HLL.out.1]
    rwa [e] at this
  · exact ⟨L.toArray, rfl, Lib.hid ⟨by rw [HL.out], HB7.out.trans (H9.out.2.1.below (fun k hk => by omega) HB7.out.size)⟩⟩
set_option maxHeartbeats 1000000 in
theorem rread_bad {h N : Nat} {D : Dm} (g : Nat) (z e : Int) (w : World) (H : RefAt w g h N D) (he : (e == 0) = false)
    (hf : ∀ w', RefAt w' g h N D → Calls Tryd.prog 29 #[.pointer (some ⟨g, 0, none⟩), .int .i64 z] w' fun x w'' => x = .returned (.int .i64 e) ∧ w' = w'') :
    Calls Tryd.prog 20 #[.pointer (some ⟨g, 0, none⟩), .int .i64 z] w fun x w' => ∃ A, x = .returned (.tuple #[.agg A, .int .i64 e]) ∧ Hid (A = (zeros64.map bv).toArray ∧ Below w.heap.size w w') := by
  obtain ⟨L, HL⟩ : ∃ L, Shut (L = zeros64.map bv) := ⟨_, ⟨rfl⟩⟩
  have HLL : Shut (L.length = 64 ∧ (∀ v ∈ L, v.oneCell' = true) ∧ (Tryd.prog.info? 47).map (·.size) = some L.length) := ⟨by
    have h1 : L.length = 64 := by rw [HL.out]; simp [zeros64]
    exact ⟨h1, by rw [HL.out]; exact bytes_one _, by rw [h1]; exact size47⟩⟩
  have HH := Lib.hid H
  have HF := Lib.hid hf
  have HZL : Hid (zeros64.length = 64) := Lib.hid rfl
  have HZA : Hid (#[.int .u8 0, .int .u8 0, .int .u8 0, .int .u8 0, .int .u8 0, .int .u8 0, .int .u8 0, .int .u8 0, .int .u8 0, .int .u8 0, .int .u8 0, .int .u8 0, .int .u8 0, .int .u8 0, .int .u8 0, .int .u8 0, .int .u8 0, .int .u8 0, .int .u8 0, .int .u8 0, .int .u8 0, .int .u8 0, .int .u8 0, .int .u8 0, .int .u8 0, .int .u8 0, .int .u8 0, .int .u8 0, .int .u8 0, .int .u8 0, .int .u8 0, .int .u8 0, .int .u8 0, .int .u8 0, .int .u8 0, .int .u8 0, .int .u8 0, .int .u8 0, .int .u8 0, .int .u8 0, .int .u8 0, .int .u8 0, .int .u8 0, .int .u8 0, .int .u8 0, .int .u8 0, .int .u8 0, .int .u8 0, .int .u8 0, .int .u8 0, .int .u8 0, .int .u8 0, .int .u8 0, .int .u8 0, .int .u8 0, .int .u8 0, .int .u8 0, .int .u8 0, .int .u8 0, .int .u8 0, .int .u8 0, .int .u8 0, .int .u8 0, .int .u8 0] = (zeros64.map bv).toArray) := Lib.hid zeros_lit2
  clear H hf
  go_enter Tryd.func20, Tryd.ntmps20
  go_wp2_with (first
    | (refine wl_alloc rfl 47 rfl 4 rfl _ _ info47 ?_
       intro w1 H1)
    | (refine wl_var rfl rfl rfl 6 rfl rfl (.tmp 8) rfl _ zeros64 HZL.out HZA.out rfl rfl ?_
       intro w2 H2
       have HB2 : Hid (Below w.heap.size w w2) := Lib.hid (H1.out.2.1.trans (H2.out.below.mono H1.out.2.1.size))
       have HD2 := Lib.hid (HH.out.under HB2.out)
       have HR2 : Hid (Row w2 w1.heap.size 47 L) := Lib.hid (by rw [HL.out]; exact H2.out.row)
       have HR1 := Lib.hid (H1.out.1.below H2.out.below (by rw [H1.out.2.2]; omega)))
    | (go_at_call 29; (with_reducible refine (HF.out _ HD2.out).mono ?_); rintro x w' ⟨rfl, rfl⟩)
    | (refine wl_load rfl 47 (.tmp 6) rfl w1.heap.size 0 rfl L _ HR2.out.all under47 rfl HLL.out.2.2 ?_
       intro v8 HV8)
    | (refine wl_store rfl 47 (.tmp 4) (.tmp 23) rfl w.heap.size 0 _ L rfl rfl HV8.out 47 _ HR1.out HLL.out.2.2 (by rw [HLL.out.1]; simp) HLL.out.2.1 ?_
       intro w9 H9))
  refine bodyPost_ret (v := .tuple #[.agg L.toArray, .int .i64 e]) (results_cell_two Tryd.results20 _ w9 w.heap.size 47 L _ _ rfl rfl ?_ under47 rfl HLL.out.2.2) rfl ?_
  · have := H9.out.1
    have e : splice (List.replicate 64 (Value.int .u8 0)) 0 L = L := by simp [splice, HLL.out.1]
    rwa [e] at this
  · exact ⟨L.toArray, rfl, Lib.hid ⟨by rw [HL.out], HB2.out.trans (H9.out.2.1.below (fun k hk => by omega) HB2.out.size)⟩⟩
theorem rread_off {h N : Nat} {D : Dm} (g : Nat) (z : Int) (w : World) (H : RefAt w g h N D) (ho : D.off = true) :
    Calls Tryd.prog 20 #[.pointer (some ⟨g, 0, none⟩), .int .i64 z] w fun x w' => ∃ A, x = .returned (.tuple #[.agg A, .int .i64 6]) ∧ Hid (A = (zeros64.map bv).toArray ∧ Below w.heap.size w w') := rread_bad g z 6 w H rfl (fun w' H' => ask_off g z w' H' ho)
theorem rread_range {h N : Nat} {D : Dm} (g : Nat) (z : Int) (w : World) (H : RefAt w g h N D) (ho : D.off = false) (hz : z < 0 ∨ (D.n : Int) ≤ z) :
    Calls Tryd.prog 20 #[.pointer (some ⟨g, 0, none⟩), .int .i64 z] w fun x w' => ∃ A, x = .returned (.tuple #[.agg A, .int .i64 1]) ∧ Hid (A = (zeros64.map bv).toArray ∧ Below w.heap.size w w') := rread_bad g z 1 w H rfl (fun w' H' => ask_range g z w' H' ho hz)
end Go.Proofs.YtadhgdjgpanddaaDoor
