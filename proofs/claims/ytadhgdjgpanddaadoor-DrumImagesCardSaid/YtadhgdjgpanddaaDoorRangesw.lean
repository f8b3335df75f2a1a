/- The law DrumRanges: blocks that aren't are refused, without spending an armed write. -/
import Derived.Test.YtadhgdjgpanddaaDoorAlive
import Derived.IntWalk
namespace Go.Proofs.YtadhgdjgpanddaaDoor
open Go.RowKit

theorem rest_nat (z : Int) (m : Nat) (hm : 0 < m) (h : m ≤ 1000000) : ∃ C : Nat, wrap64 ((IntKind.u64.wrap z).tmod (m : Int)) = (C : Int) ∧ C < m := by
  have h0 : 0 ≤ IntKind.u64.wrap z := by
    unfold IntKind.wrap
    simp [IntKind.signed, IntKind.bits]
    omega
  have h1 := Int.tmod_nonneg (m : Int) h0
  have h2 := Int.tmod_lt_of_pos (IntKind.u64.wrap z) (b := (m : Int)) (by omega)
  refine ⟨((IntKind.u64.wrap z).tmod (m : Int)).toNat, ?_, by omega⟩
  unfold wrap64
  omega
/-- How a drum of DrumRanges stands behind k of m writes. -/
structure RaAt (D : Dm) (q m k : Nat) : Prop where
  off : D.off = false
  n : D.n = q
  armed : D.armed = true
  left : D.left = m - k
  writes : D.writes = k
def RaHas (w : World) (g h q m k : Nat) : Prop := ∃ D, DrumAt w g h D ∧ RaAt D q m k
theorem ra_arm {w : World} {g h q m : Nat} (H : DrumAt w g h ((fresh q).arm (m : Int))) : RaHas w g h q m 0 := ⟨_, H, rfl, rfl, by simp [Dm.arm], by simp [Dm.arm], rfl⟩
theorem RaHas.under {w w' : World} {g h q m k : Nat} (H : RaHas w g h q m k) (hb : Below w.heap.size w w') : RaHas w' g h q m k := by
  obtain ⟨D, h1, h2⟩ := H
  exact ⟨D, h1.under hb, h2⟩
theorem RaHas.stay {w w' : World} {g h q m k : Nat} (H : RaHas w g h q m k) (hb : Stay w w') : RaHas w' g h q m k := by
  obtain ⟨D, h1, h2⟩ := H
  exact ⟨D, h1.stay hb, h2⟩
/-- One of the writes that are armed. -/
theorem ra_write (g h q m k : Nat) (e z : Int) (b : UInt8) (w : World) (H : RaHas w g h q m k) (hq : 1 ≤ q) (he : e = ((q - 1 : Nat) : Int)) (hz : z = (b.toNat : Int)) (hk : k < m) (hm : m ≤ 20) :
    Calls Tryd.prog 16 #[.pointer (some ⟨g, 0, none⟩), .int .i64 e, .agg #[.int .u8 z, .int .u8 0, .int .u8 0, .int .u8 0, .int .u8 0, .int .u8 0, .int .u8 0, .int .u8 0, .int .u8 0, .int .u8 0, .int .u8 0, .int .u8 0, .int .u8 0, .int .u8 0, .int .u8 0, .int .u8 0, .int .u8 0, .int .u8 0, .int .u8 0, .int .u8 0, .int .u8 0, .int .u8 0, .int .u8 0, .int .u8 0, .int .u8 0, .int .u8 0, .int .u8 0, .int .u8 0, .int .u8 0, .int .u8 0, .int .u8 0, .int .u8 0, .int .u8 0, .int .u8 0, .int .u8 0, .int .u8 0, .int .u8 0, .int .u8 0, .int .u8 0, .int .u8 0, .int .u8 0, .int .u8 0, .int .u8 0, .int .u8 0, .int .u8 0, .int .u8 0, .int .u8 0, .int .u8 0, .int .u8 0, .int .u8 0, .int .u8 0, .int .u8 0, .int .u8 0, .int .u8 0, .int .u8 0, .int .u8 0, .int .u8 0, .int .u8 0, .int .u8 0, .int .u8 0, .int .u8 0, .int .u8 0, .int .u8 0, .int .u8 0]] w fun x w' => x = .returned .nilIface ∧ Hid (RaHas w' g h q m (k + 1) ∧ Turn (Two g h) w w') := by
  obtain ⟨D, h1, h2⟩ := H
  refine (w_ok g (q - 1) e z b w h1 he hz h2.off (by rw [h2.n]; omega) (fun _ => by rw [h2.left]; omega) (by rw [h2.writes]; omega)).mono fun x w' ⟨hx, H⟩ => ⟨hx, Lib.hid ⟨⟨_, H.out.1, h2.off, h2.n, h2.armed, ?_, ?_⟩, H.out.2⟩⟩
  · show (if D.armed then D.left - 1 else D.left) = _
    rw [if_pos h2.armed, h2.left]; omega
  · show D.writes + 1 = k + 1
    rw [h2.writes]
/-- One more. -/
theorem ra_power (ad : Nat → Addr) (g h q m : Nat) (e : Int) (A : Array Value) (w : World) (hE : Errs w ad) (hgh : 2 ≤ g ∧ 2 ≤ h) (H : RaHas w g h q m m) (hq : 1 ≤ q) (he : e = ((q - 1 : Nat) : Int)) :
    Calls Tryd.prog 16 #[.pointer (some ⟨g, 0, none⟩), .int .i64 e, .agg A] w fun x w' => x = .returned (.iface 67 (.pointer (some (ad 1)))) ∧ Hid ((∃ D, DrumAt w' g h D ∧ D.writes = m) ∧ Turn (Two g h) w w') := by
  obtain ⟨D, h1, h2⟩ := H
  exact (w_power ad g (q - 1) e A w hE hgh h1 he h2.off (by rw [h2.n]; omega) h2.armed (by rw [h2.left]; omega)).mono fun x w' ⟨hx, H⟩ => ⟨hx, Lib.hid ⟨⟨_, H.out.1, h2.writes⟩, H.out.2⟩⟩
theorem ra_count (g h m : Nat) (w : World) (H : ∃ D, DrumAt w g h D ∧ D.writes = m) : Calls Tryd.prog 25 #[.pointer (some ⟨g, 0, none⟩)] w fun x w' => x = .returned (.int .i64 (m : Int)) ∧ w = w' := by
  obtain ⟨D, h1, h2⟩ := H
  have := writes_any g w h1
  rwa [h2] at this
theorem ra_read_bad (ad : Nat → Addr) (g h q m k : Nat) (z : Int) (w : World) (hE : Errs w ad) (h2 : 2 ≤ w.heap.size) (H : RaHas w g h q m k) (hz : z < 0 ∨ (q : Int) ≤ z) :
    Calls Tryd.prog 19 #[.pointer (some ⟨g, 0, none⟩), .int .i64 z] w fun x w' => ∃ A, x = .returned (.tuple #[.agg A, .iface 67 (.pointer (some (ad 0)))]) ∧ Hid (A = (zeros64.map bv).toArray ∧ Below w.heap.size w w') := by
  obtain ⟨D, h1, h3⟩ := H
  exact read_range ad g z w hE h2 h1 h3.off (by rw [h3.n]; exact hz)
theorem ra_write_bad (ad : Nat → Addr) (g h q m k : Nat) (z : Int) (A : Array Value) (w : World) (hE : Errs w ad) (h2 : 2 ≤ w.heap.size) (H : RaHas w g h q m k) (hz : z < 0 ∨ (q : Int) ≤ z) :
    Calls Tryd.prog 16 #[.pointer (some ⟨g, 0, none⟩), .int .i64 z, .agg A] w fun x w' => x = .returned (.iface 67 (.pointer (some (ad 0)))) ∧ Hid (Below w.heap.size w w') := by
  obtain ⟨D, h1, h3⟩ := H
  exact write_range ad g z A w hE h2 h1 h3.off (by rw [h3.n]; exact hz)
/-- The rest of the law, from the loop on: one statement for both ways to it. -/
structure RaW (ad : Nat → Addr) (w W : World) (g h q m k : Nat) : Prop where
  has : RaHas W g h q m k
  below : Below w.heap.size w W
  errs : Errs W ad

set_option maxHeartbeats 1000000 in
set_option maxRecDepth 100000 in
theorem ranges_any (ad : Nat → Addr) (z0 z1 z2 : Int) (w : World) (hE : Errs w ad) (h2 : 2 ≤ w.heap.size) (b0 : -9223372036854775808 ≤ z0) (b1 : z0 ≤ 9223372036854775807) (b2 : -9223372036854775808 ≤ z1) (b3 : z1 ≤ 9223372036854775807) (b4 : -9223372036854775808 ≤ z2) (b5 : z2 ≤ 9223372036854775807) :
    Calls Tryd.prog 7 #[.int .i64 z0, .int .i64 z1, .int .i64 z2] w fun e w' => e = .returned (.bool true) ∧ Below w.heap.size w w' := by
  have HE := Lib.hid hE
  clear hE
  obtain ⟨q, HQ, hq1, hq2⟩ : ∃ q : Nat, Hid (wrap64 (1 + wrap64 ((IntKind.u64.wrap z0).tmod 50)) = (q : Int)) ∧ 1 ≤ q ∧ q ≤ 50 := by
    obtain ⟨C, e, h⟩ := rest_nat z0 50 (by omega) (by omega)
    exact ⟨C + 1, Lib.hid (by rw [show ((50 : Nat) : Int) = 50 from rfl] at e; rw [e]; unfold wrap64; omega), by omega, by omega⟩
  obtain ⟨m, HM, hm⟩ : ∃ m : Nat, Hid (wrap64 ((IntKind.u64.wrap z2).tmod 20) = (m : Int)) ∧ m < 20 := by
    obtain ⟨C, e, h⟩ := rest_nat z2 20 (by omega) (by omega)
    exact ⟨C, Lib.hid e, h⟩
  have HQ1 : Hid ((q : Int) - 1 = ((q - 1 : Nat) : Int)) := Lib.hid (by omega)
  have H12 : Hid ((1 : Int) = ((1 : UInt8).toNat : Int) ∧ (m : Int) ≤ 9223372036854775807) := Lib.hid ⟨rfl, by omega⟩
  go_enter Tryd.func7, Tryd.ntmps7
  go_wp2_with fail
  with_reducible refine (alive_any ad w HE.out h2).mono ?_
  rintro x w1 ⟨rfl, H1⟩
  go_wp2_with fail
  simp only [HQ.out, HM.out]
  with_reducible refine (new_ok q _ w1 rfl hq1 (by omega)).mono ?_
  rintro x w2 ⟨rfl, H2⟩
  have HT : Hid (∀ k, Two (w1.heap.size + 1) w1.heap.size k → w1.heap.size ≤ k) := Lib.hid (by rintro k (e | e) <;> omega)
  have HT2 : Hid (2 ≤ w1.heap.size + 1 ∧ 2 ≤ w1.heap.size) := Lib.hid (by have := H1.out.size; omega)
  have hz1 : 2 ≤ w1.heap.size := HT2.out.2
  generalize hg : w1.heap.size + 1 = g at *
  generalize hh : w1.heap.size = h at *
  have HG := Lib.hid (And.intro hg hh)
  clear hg hh
  go_wp2_with fail
  with_reducible refine (arm_any g _ w2 H2.out.1 H12.out.2).mono ?_
  rintro x w3 ⟨rfl, H3⟩
  have HB2 : Hid (Below h w1 w2) := Lib.hid (by have := H2.out.2.1; exact this)
  have HH3 : Hid (w.heap.size ≤ h ∧ h ≤ w2.heap.size ∧ h ≤ w3.heap.size) := Lib.hid (by have e1 := H1.out.size; have e2 := HG.out.2; have e3 := HB2.out.size; have e4 := H3.out.2.size; omega)
  have H0 : Hid (RaW ad w w3 g h q m 0) := Lib.hid (by
    have hb : Below w.heap.size w w3 := H1.out.trans ((HB2.out.mono HH3.out.1).trans ((H3.out.2.below HT.out HH3.out.2.1).mono HH3.out.1))
    exact ⟨ra_arm H3.out.1, hb, HE.out.below h2 hb⟩)
  clear H2 H3 HB2
  by_cases hat : z1 < 0 ∨ (q : Int) ≤ z1
  · have HAT := Lib.hid hat
    have hd : (decide (z1 < 0) || decide ((q : Int) ≤ z1)) = true := by simpa using hat
    have hway : z1 < 0 ∨ (¬ z1 < 0 ∧ (q : Int) ≤ z1) := by omega
    clear hat hd
    rcases (show (decide (z1 < 0) = true ∧ z1 < 0) ∨ (decide (z1 < 0) = false ∧ (q : Int) ≤ z1) by rcases hway with h | h <;> simp [h]) with ⟨hd1, hz0⟩ | ⟨hd1, hzq⟩
    all_goals
      have HZ3 : Hid (2 ≤ w3.heap.size) := Lib.hid (by have := HH3.out; omega)
      go_wp2_with fail
      with_reducible refine (ra_read_bad ad g h q m 0 z1 w3 H0.out.errs HZ3.out H0.out.has HAT.out).mono ?_
      rintro x w4 ⟨A4, rfl, H4⟩
      have HZL : Hid (zeros64.length = 64) := Lib.hid rfl
      go_wp2_with (first
        | (refine wl_var rfl rfl rfl 9 rfl rfl (.tmp 49) rfl _ zeros64 HZL.out H4.out.1 rfl rfl ?_
           intro w5 H5))
      have HB35 : Hid (Below w3.heap.size w3 w5) := Lib.hid (H4.out.2.trans (H5.out.below.mono H4.out.2.size))
      have H05 : Hid (RaW ad w w5 g h q m 0) := Lib.hid ⟨H0.out.has.under HB35.out, H0.out.below.trans (HB35.out.mono H0.out.below.size), H0.out.errs.below HZ3.out HB35.out⟩
      have HZ5 : Hid (2 ≤ w5.heap.size) := Lib.hid (Nat.le_trans HZ3.out HB35.out.size)
      have c0 := H05.out.errs.cell 0 (by omega)
      have heq := fun w' => err_neq (ad 0) w'
      have HC : Hid (∀ A, Calls Tryd.prog 16 #[.pointer (some ⟨g, 0, none⟩), .int .i64 z1, .agg A] w5.drew fun x w' => x = .returned (.iface 67 (.pointer (some (ad 0)))) ∧ Hid (Below w5.heap.size w5 w')) := Lib.hid (fun A =>
        (ra_write_bad ad g h q m 0 z1 A w5.drew (H05.out.errs.stay ⟨rfl, rfl, rfl, rfl⟩) HZ5.out (H05.out.has.stay ⟨rfl, rfl, rfl, rfl⟩) HAT.out).mono fun x w' ⟨hx, H⟩ => ⟨hx, Lib.hid ((Below.refl _ _).drew.trans H.out)⟩)
      go_region_held3 (fun w' => w'.cell? ⟨0, 0, none⟩ = some (.iface 67 (.pointer (some (ad 0)))))
        (first | exact c0 | exact (H05.out.errs.below HZ5.out HV8.out).cell 0 (by omega))
        (first
          | (go_at_call 16; (with_reducible refine (HC.out _).mono ?_); rintro e w8 ⟨rfl, HV8⟩))
      all_goals
        have H08 : Hid (RaW ad w w8 g h q m 0) := Lib.hid (by
          have hb := (HV8.out : Below w5.heap.size w5 w8)
          exact ⟨H05.out.has.under hb, H05.out.below.trans (hb.mono H05.out.below.size), H05.out.errs.below HZ5.out hb⟩)
        clear heq c0 HC HV8 HB35 H4 H5 H05 H0
        go_wp2_with fail
        go_loopw [63] (fun i W => ∃ k : Nat, k ≤ m ∧ i = .int .i64 k ∧ Hid (RaW ad w W g h q m k)) (fun i _ => m - (intOf i).toNat)
        case atStart => exact ⟨0, Nat.zero_le _, rfl, H08⟩
        case round =>
          clear H08
          obtain ⟨k, hk, rfl, HK⟩ := hrel
          have hzr : h ≤ wr.heap.size := by obtain ⟨D, hD, _⟩ := HK.out.has; exact Nat.le_of_lt hD.blk.lt
          by_cases hlt : k < m
          · go_wp2_with fail
            with_reducible refine (ra_write g h q m k _ _ 1 wr HK.out.has hq1 HQ1.out H12.out.1 hlt (by omega)).mono ?_
            rintro x w9 ⟨rfl, H9⟩
            go_wp2_with fail
            exact ⟨⟨k + 1, by omega, by go_num, Lib.hid ⟨H9.out.1, HK.out.below.trans ((H9.out.2.below HT.out hzr).mono HH3.out.1), HK.out.errs.below HT2.out.2 (H9.out.2.below HT.out hzr)⟩⟩, by simp [intOf]; omega⟩
          · obtain rfl : k = m := by omega
            have c1 := HK.out.errs.cell 1 (by omega)
            have heq := fun w' => err_same (ad 1) w'
            have HC : Hid (∀ A, Calls Tryd.prog 16 #[.pointer (some ⟨g, 0, none⟩), .int .i64 ((q : Int) - 1), .agg A] wr.drew fun x w' => x = .returned (.iface 67 (.pointer (some (ad 1)))) ∧ Hid ((∃ D, DrumAt w' g h D ∧ D.writes = k) ∧ Below h wr w')) := Lib.hid (fun A =>
              (ra_power ad g h q k _ A wr.drew (HK.out.errs.stay ⟨rfl, rfl, rfl, rfl⟩) HT2.out (HK.out.has.stay ⟨rfl, rfl, rfl, rfl⟩) hq1 HQ1.out).mono fun x w' ⟨hx, H⟩ => ⟨hx, Lib.hid ⟨H.out.1, (Below.refl _ _).drew.trans (H.out.2.below HT.out hzr)⟩⟩)
            go_wp2_with fail
            have hI : IntKind.i64.wrap ((q : Int) - 1) = (q : Int) - 1 := by rw [IntKind.wrap_i64]; omega
            go_region_held3 (fun w' => w'.cell? ⟨1, 0, none⟩ = some (.iface 67 (.pointer (some (ad 1)))))
              (first | exact c1 | exact (HK.out.errs.below HT2.out.2 HV9.out.2).cell 1 (by omega))
              (first
                | (go_at_call 16; (with_reducible refine (HC.out _).mono ?_); rintro e w9 ⟨rfl, HV9⟩)
                | (go_at_call 25; (with_reducible refine (ra_count g h k _ HV9.out.1).mono ?_); rintro e w10 ⟨rfl, rfl⟩))
            all_goals
              clear heq c1 hI
              go_wp2_with fail
              go_ret
              exact ⟨rfl, HK.out.below.trans (HV9.out.2.mono HH3.out.1)⟩
  · have hd1 : decide (z1 < 0) = false := by simp; omega
    have hd2 : decide ((q : Int) ≤ z1) = false := by simp; omega
    have H08 := H0
    clear hat H0
    go_wp2_with fail
    go_loopw [63] (fun i W => ∃ k : Nat, k ≤ m ∧ i = .int .i64 k ∧ Hid (RaW ad w W g h q m k)) (fun i _ => m - (intOf i).toNat)
    case atStart => exact ⟨0, Nat.zero_le _, rfl, H08⟩
    case round =>
      clear H08
      obtain ⟨k, hk, rfl, HK⟩ := hrel
      have hzr : h ≤ wr.heap.size := by obtain ⟨D, hD, _⟩ := HK.out.has; exact Nat.le_of_lt hD.blk.lt
      by_cases hlt : k < m
      · go_wp2_with fail
        with_reducible refine (ra_write g h q m k _ _ 1 wr HK.out.has hq1 HQ1.out H12.out.1 hlt (by omega)).mono ?_
        rintro x w9 ⟨rfl, H9⟩
        go_wp2_with fail
        exact ⟨⟨k + 1, by omega, by go_num, Lib.hid ⟨H9.out.1, HK.out.below.trans ((H9.out.2.below HT.out hzr).mono HH3.out.1), HK.out.errs.below HT2.out.2 (H9.out.2.below HT.out hzr)⟩⟩, by simp [intOf]; omega⟩
      · obtain rfl : k = m := by omega
        have c1 := HK.out.errs.cell 1 (by omega)
        have heq := fun w' => err_same (ad 1) w'
        have HC : Hid (∀ A, Calls Tryd.prog 16 #[.pointer (some ⟨g, 0, none⟩), .int .i64 ((q : Int) - 1), .agg A] wr.drew fun x w' => x = .returned (.iface 67 (.pointer (some (ad 1)))) ∧ Hid ((∃ D, DrumAt w' g h D ∧ D.writes = k) ∧ Below h wr w')) := Lib.hid (fun A =>
          (ra_power ad g h q k _ A wr.drew (HK.out.errs.stay ⟨rfl, rfl, rfl, rfl⟩) HT2.out (HK.out.has.stay ⟨rfl, rfl, rfl, rfl⟩) hq1 HQ1.out).mono fun x w' ⟨hx, H⟩ => ⟨hx, Lib.hid ⟨H.out.1, (Below.refl _ _).drew.trans (H.out.2.below HT.out hzr)⟩⟩)
        go_wp2_with fail
        have hI : IntKind.i64.wrap ((q : Int) - 1) = (q : Int) - 1 := by rw [IntKind.wrap_i64]; omega
        go_region_held3 (fun w' => w'.cell? ⟨1, 0, none⟩ = some (.iface 67 (.pointer (some (ad 1)))))
          (first | exact c1 | exact (HK.out.errs.below HT2.out.2 HV9.out.2).cell 1 (by omega))
          (first
            | (go_at_call 16; (with_reducible refine (HC.out _).mono ?_); rintro e w9 ⟨rfl, HV9⟩)
            | (go_at_call 25; (with_reducible refine (ra_count g h k _ HV9.out.1).mono ?_); rintro e w10 ⟨rfl, rfl⟩))
        all_goals
          clear heq c1 hI
          go_wp2_with fail
          go_ret
          exact ⟨rfl, HK.out.below.trans (HV9.out.2.mono HH3.out.1)⟩
end Go.Proofs.YtadhgdjgpanddaaDoor
