/- The law DrumDark: without power nothing is read or written, and all is as it was when the power is back. -/
import Derived.Test.YtadhgdjgpanddaaDoorEq
import Derived.Test.YtadhgdjgpanddaaDoorRangesw
namespace Go.Proofs.YtadhgdjgpanddaaDoor
open Go.RowKit

theorem eql_or : (BinOp.eql = .eql ∧ true = true) ∨ (BinOp.eql = .neq ∧ true = false) := .inl ⟨rfl, rfl⟩
theorem neq_or : (BinOp.neq = .eql ∧ false = true) ∨ (BinOp.neq = .neq ∧ false = false) := .inr ⟨rfl, rfl⟩
def dk1 (q : Nat) : Dm := (fresh q).wrote 0 (blk 9)
def dk2 (q : Nat) : Dm := (dk1 q).arm 0
def dk3 (q : Nat) : Dm := { dk2 q with off := true }
def dk4 (q : Nat) : Dm := (dk3 q).arm 3
def dk5 (q : Nat) : Dm := (dk4 q).on
theorem dk_block (q : Nat) : (dk5 q).block 0 = blk 9 := by
  show ((splice (List.replicate (q * 64) 0) (0 * 64) (blk 9)).drop (0 * 64)).take 64 = blk 9
  simp [splice, blk]
theorem dk_write (q g h : Nat) (w : World) (H : DrumAt w g h (fresh q)) (hq : 1 ≤ q) : Calls Tryd.prog 16 #[.pointer (some ⟨g, 0, none⟩), .int .i64 0, .agg #[.int .u8 9, .int .u8 0, .int .u8 0, .int .u8 0, .int .u8 0, .int .u8 0, .int .u8 0, .int .u8 0, .int .u8 0, .int .u8 0, .int .u8 0, .int .u8 0, .int .u8 0, .int .u8 0, .int .u8 0, .int .u8 0, .int .u8 0, .int .u8 0, .int .u8 0, .int .u8 0, .int .u8 0, .int .u8 0, .int .u8 0, .int .u8 0, .int .u8 0, .int .u8 0, .int .u8 0, .int .u8 0, .int .u8 0, .int .u8 0, .int .u8 0, .int .u8 0, .int .u8 0, .int .u8 0, .int .u8 0, .int .u8 0, .int .u8 0, .int .u8 0, .int .u8 0, .int .u8 0, .int .u8 0, .int .u8 0, .int .u8 0, .int .u8 0, .int .u8 0, .int .u8 0, .int .u8 0, .int .u8 0, .int .u8 0, .int .u8 0, .int .u8 0, .int .u8 0, .int .u8 0, .int .u8 0, .int .u8 0, .int .u8 0, .int .u8 0, .int .u8 0, .int .u8 0, .int .u8 0, .int .u8 0, .int .u8 0, .int .u8 0, .int .u8 0]] w fun x w' => x = .returned .nilIface ∧ Hid (DrumAt w' g h (dk1 q) ∧ Turn (Two g h) w w') :=
  w_ok g 0 0 9 9 w H rfl rfl rfl hq (fun h => by cases h) (by show 0 < _; omega)
theorem dk_arm0 (q g h : Nat) (w : World) (H : DrumAt w g h (dk1 q)) : Calls Tryd.prog 21 #[.pointer (some ⟨g, 0, none⟩), .int .i64 0] w fun x w' => x = .returned (.tuple #[]) ∧ Hid (DrumAt w' g h (dk2 q) ∧ Turn (Two g h) w w') := arm_any g 0 w H (by omega)
theorem dk_power (ad : Nat → Addr) (q g h : Nat) (A : Array Value) (w : World) (hE : Errs w ad) (hgh : 2 ≤ g ∧ 2 ≤ h) (H : DrumAt w g h (dk2 q)) (hq : 1 ≤ q) : Calls Tryd.prog 16 #[.pointer (some ⟨g, 0, none⟩), .int .i64 0, .agg A] w fun x w' => x = .returned (.iface 67 (.pointer (some (ad 1)))) ∧ Hid (DrumAt w' g h (dk3 q) ∧ Turn (Two g h) w w') :=
  w_power ad g 0 0 A w hE hgh H rfl rfl hq rfl rfl
theorem dk_off (q g h : Nat) (w : World) (H : DrumAt w g h (dk3 q)) : Calls Tryd.prog 11 #[.pointer (some ⟨g, 0, none⟩)] w fun x w' => x = .returned (.bool true) ∧ w = w' := off_any g w H
theorem dk_off4 (q g h : Nat) (w : World) (H : DrumAt w g h (dk4 q)) : Calls Tryd.prog 11 #[.pointer (some ⟨g, 0, none⟩)] w fun x w' => x = .returned (.bool true) ∧ w = w' := off_any g w H
theorem dk_off5 (q g h : Nat) (w : World) (H : DrumAt w g h (dk5 q)) : Calls Tryd.prog 11 #[.pointer (some ⟨g, 0, none⟩)] w fun x w' => x = .returned (.bool false) ∧ w = w' := off_any g w H
theorem dk_arm3 (q g h : Nat) (w : World) (H : DrumAt w g h (dk3 q)) : Calls Tryd.prog 21 #[.pointer (some ⟨g, 0, none⟩), .int .i64 3] w fun x w' => x = .returned (.tuple #[]) ∧ Hid (DrumAt w' g h (dk4 q) ∧ Turn (Two g h) w w') := arm_any g 3 w H (by omega)
theorem dk_on (q g h : Nat) (w : World) (H : DrumAt w g h (dk4 q)) : Calls Tryd.prog 23 #[.pointer (some ⟨g, 0, none⟩)] w fun x w' => x = .returned (.tuple #[]) ∧ Hid (DrumAt w' g h (dk5 q) ∧ Turn (Two g h) w w') := on_any g w H
theorem dk_read (q g h : Nat) (w : World) (H : DrumAt w g h (dk5 q)) (hq : 1 ≤ q) : Calls Tryd.prog 19 #[.pointer (some ⟨g, 0, none⟩), .int .i64 0] w fun x w' => ∃ A, x = .returned (.tuple #[.agg A, .nilIface]) ∧ Hid (A = ((blk 9).map bv).toArray ∧ Below w.heap.size w w') := by
  rw [← dk_block q]; exact r_ok g 0 0 w H rfl rfl hq
theorem dk_image3 (q g h : Nat) (w : World) (H : DrumAt w g h (dk3 q)) : Calls Tryd.prog 26 #[.pointer (some ⟨g, 0, none⟩)] w fun x w' => ∃ A n c, x = .returned (.slice A n c) ∧ Hid (New w w' A n c (dk1 q).all ∧ Below w.heap.size w w') := image_any (D := dk3 q) g w H
theorem dk_image5 (q g h : Nat) (w : World) (H : DrumAt w g h (dk5 q)) : Calls Tryd.prog 26 #[.pointer (some ⟨g, 0, none⟩)] w fun x w' => ∃ A n c, x = .returned (.slice A n c) ∧ Hid (New w w' A n c (dk1 q).all ∧ Below w.heap.size w w') := image_any (D := dk5 q) g w H
theorem dk_count (q g h : Nat) (w : World) (H : DrumAt w g h (dk5 q)) : Calls Tryd.prog 25 #[.pointer (some ⟨g, 0, none⟩)] w fun x w' => x = .returned (.int .i64 1) ∧ w = w' := writes_any g w H
/-- The drum, and what was before the law. -/
structure DkW (ad : Nat → Addr) (w W : World) (g h : Nat) (D : Dm) : Prop where
  has : DrumAt W g h D
  below : Below w.heap.size w W
  errs : Errs W ad
theorem DkW.under {ad : Nat → Addr} {w W W' : World} {g h : Nat} {D : Dm} (H : DkW ad w W g h D) (h2 : 2 ≤ w.heap.size) (hb : Below W.heap.size W W') : DkW ad w W' g h D := ⟨H.has.under hb, H.below.trans (hb.mono H.below.size), H.errs.below (Nat.le_trans h2 H.below.size) hb⟩
theorem DkW.next {ad : Nat → Addr} {w W W' : World} {g h : Nat} {D D' : Dm} (H : DkW ad w W g h D) (h2 : 2 ≤ w.heap.size) (hg : w.heap.size ≤ g) (hh : w.heap.size ≤ h) (H' : DrumAt W' g h D') (ht : Turn (Two g h) W W') : DkW ad w W' g h D' := by
  have hb : Below w.heap.size W W' := ht.below (by rintro k (e | e) <;> omega) H.below.size
  exact ⟨H', H.below.trans hb, H.errs.below h2 hb⟩
theorem DkW.two {ad : Nat → Addr} {w W : World} {g h : Nat} {D : Dm} (H : DkW ad w W g h D) (h2 : 2 ≤ w.heap.size) : 2 ≤ W.heap.size := Nat.le_trans h2 H.below.size

set_option maxHeartbeats 1000000 in
set_option maxRecDepth 100000 in
theorem dark_any (ad : Nat → Addr) (z0 : Int) (A : Option Addr) (L c : Nat) (zs : List Int) (w : World) (hE : Errs w ad) (h2 : 2 ≤ w.heap.size) (b0 : -9223372036854775808 ≤ z0) (b1 : z0 ≤ 9223372036854775807) (hL : zs.length = L) (hLc : L ≤ c) (hcm : c ≤ 9223372036854775807) (hr : Ints w A zs) :
    Calls Tryd.prog 6 #[.int .i64 z0, .slice A L c] w fun e w' => e = .returned (.bool true) ∧ Below w.heap.size w w' := by
  have HE := Lib.hid hE
  have HL := Lib.hid hL
  have HR := Lib.hid hr
  clear hE hL hr
  obtain ⟨q, HQ, hq1, hq2⟩ : ∃ q : Nat, Hid (wrap64 (1 + wrap64 ((IntKind.u64.wrap z0).tmod 50)) = (q : Int)) ∧ 1 ≤ q ∧ q ≤ 50 := by
    obtain ⟨C, e, h⟩ := rest_nat z0 50 (by omega) (by omega)
    exact ⟨C + 1, Lib.hid (by rw [show ((50 : Nat) : Int) = 50 from rfl] at e; rw [e]; unfold wrap64; omega), by omega, by omega⟩
  by_cases hbig : 100 < L
  · have hbI : (100 : Int) < (L : Int) := by omega
    go_enter Tryd.func6, Tryd.ntmps6
    go_wp2_with fail
    with_reducible refine (alive_any ad w HE.out h2).mono ?_
    rintro x w1 ⟨rfl, H1⟩
    go_wp2_with fail
    simp only [HQ.out]
    with_reducible refine (new_ok q _ w1 rfl hq1 (by omega)).mono ?_
    rintro x w2 ⟨rfl, H2⟩
    go_wp2_with fail
    go_ret
    exact ⟨rfl, H1.out.trans (H2.out.2.1.mono H1.out.size)⟩
  have hbI : ¬ (100 : Int) < (L : Int) := by omega
  go_enter Tryd.func6, Tryd.ntmps6
  go_wp2_with fail
  with_reducible refine (alive_any ad w HE.out h2).mono ?_
  rintro x w1 ⟨rfl, H1⟩
  go_wp2_with fail
  simp only [HQ.out]
  with_reducible refine (new_ok q _ w1 rfl hq1 (by omega)).mono ?_
  rintro x w2 ⟨rfl, H2⟩
  have HT2 : Hid (2 ≤ w1.heap.size + 1 ∧ 2 ≤ w1.heap.size) := Lib.hid (by have := H1.out.size; omega)
  have HGH : Hid (w.heap.size ≤ w1.heap.size + 1 ∧ w.heap.size ≤ w1.heap.size) := Lib.hid (by have := H1.out.size; omega)
  have K2 : Hid (DkW ad w w2 (w1.heap.size + 1) w1.heap.size (fresh q)) := Lib.hid (by
    have hb := H1.out.trans (H2.out.2.1.mono H1.out.size)
    exact ⟨H2.out.1, hb, HE.out.below h2 hb⟩)
  generalize hg : w1.heap.size + 1 = g at *
  generalize hh : w1.heap.size = h at *
  clear hg hh H2 H1
  go_wp2_with fail
  with_reducible refine (dk_write q g h w2 K2.out.has hq1).mono ?_
  rintro x w3 ⟨rfl, H3⟩
  have K3 := Lib.hid (K2.out.next h2 HGH.out.1 HGH.out.2 H3.out.1 H3.out.2)
  go_wp2_with fail
  with_reducible refine (dk_arm0 q g h w3 K3.out.has).mono ?_
  rintro x w4 ⟨rfl, H4⟩
  have K4 := Lib.hid (K3.out.next h2 HGH.out.1 HGH.out.2 H4.out.1 H4.out.2)
  go_wp2_with fail
  with_reducible refine (dk_power ad q g h _ w4 K4.out.errs HT2.out K4.out.has hq1).mono ?_
  rintro x w5 ⟨rfl, H5⟩
  have K5 := Lib.hid (K4.out.next h2 HGH.out.1 HGH.out.2 H5.out.1 H5.out.2)
  go_wp2_with fail
  with_reducible refine (dk_off q g h w5 K5.out.has).mono ?_
  rintro x w6 ⟨rfl, rfl⟩
  go_wp2_with fail
  with_reducible refine (dk_image3 q g h w5 K5.out.has).mono ?_
  rintro x w6 ⟨A6, n6, c6, rfl, H6⟩
  have K6 := Lib.hid (K5.out.under h2 H6.out.2)
  obtain ⟨t, HT⟩ : ∃ t, Hid (t = strOf (dk1 q).all) := ⟨_, Lib.hid rfl⟩
  have hcv : (convert 22 9 (.slice A6 n6 c6)).run Tryd.prog w6 = .ok (.string t) w6 := by rw [HT.out]; exact H6.out.1.str
  clear K2 K3 K4 K5 H3 H4 H5
  go_wp2_with fail
  clear hcv H6
  go_loopw [60] (fun i W => ∃ k : Nat, k ≤ L ∧ i = .int .i64 k ∧ Hid (DkW ad w W g h (dk3 q))) (fun i _ => L - (intOf i).toNat)
  case atStart => exact ⟨0, Nat.zero_le _, rfl, K6⟩
  case round =>
    clear K6
    obtain ⟨k, hk, rfl, HK⟩ := hrel
    by_cases hlt : k < L
    · obtain ⟨aa, z, rfl, _, hcell, hz1, hz2⟩ := HR.out.cell (k := k) (by rw [HL.out]; exact hlt) HK.out.below
      have HZR := Lib.hid (HK.out.two h2)
      have HO : Hid ((dk3 q).off = true) := Lib.hid rfl
      have HZL : Hid (zeros64.length = 64) := Lib.hid rfl
      go_wp2_with fail
      with_reducible refine (read_off ad g z wr HK.out.errs HZR.out HK.out.has HO.out).mono ?_
      rintro x w7 ⟨A7, rfl, H7⟩
      clear hcell
      go_wp2_with (first
        | (refine wl_var rfl rfl rfl 10 rfl rfl (.tmp 68) rfl _ zeros64 HZL.out H7.out.1 rfl rfl ?_
           intro w8 H8))
      have K8 : Hid (DkW ad w w8 g h (dk3 q)) := Lib.hid ((HK.out.under h2 H7.out.2).under h2 H8.out.below)
      have HZ8 := Lib.hid (K8.out.two h2)
      have c1 := K8.out.errs.cell 1 (by omega)
      have heq := fun w' => err_neq (ad 1) w'
      have HC : Hid (∀ A, Calls Tryd.prog 16 #[.pointer (some ⟨g, 0, none⟩), .int .i64 z, .agg A] w8.drew fun x w' => x = .returned (.iface 67 (.pointer (some (ad 1)))) ∧ Hid (Below w8.heap.size w8 w')) := Lib.hid (fun A =>
        (write_off ad g z A w8.drew (K8.out.errs.stay ⟨rfl, rfl, rfl, rfl⟩) HZ8.out (K8.out.has.stay ⟨rfl, rfl, rfl, rfl⟩) HO.out).mono fun x w' ⟨hx, H⟩ => ⟨hx, Lib.hid ((Below.refl _ _).drew.trans H.out)⟩)
      go_region_held3 (fun w' => w'.cell? ⟨1, 0, none⟩ = some (.iface 67 (.pointer (some (ad 1)))))
        (first | exact c1 | exact (K8.out.errs.below HZ8.out HV9.out).cell 1 (by omega))
        (first
          | (go_at_call 16; (with_reducible refine (HC.out _).mono ?_); rintro e w9 ⟨rfl, HV9⟩))
      all_goals
        clear heq c1 HC
        have K9 : Hid (DkW ad w w9 g h (dk3 q)) := Lib.hid (K8.out.under h2 HV9.out)
        clear HV9
        go_wp2_with fail
        exact ⟨⟨k + 1, by omega, by go_num, K9⟩, by simp [intOf]; omega⟩
    · go_wp2_with fail
      with_reducible refine (dk_arm3 q g h wr HK.out.has).mono ?_
      rintro x w7 ⟨rfl, H7⟩
      have K7 := Lib.hid (HK.out.next h2 HGH.out.1 HGH.out.2 H7.out.1 H7.out.2)
      go_wp2_with fail
      with_reducible refine (dk_off4 q g h w7 K7.out.has).mono ?_
      rintro x w8 ⟨rfl, rfl⟩
      go_wp2_with fail
      with_reducible refine (dk_on q g h w7 K7.out.has).mono ?_
      rintro x w8 ⟨rfl, H8⟩
      have K8 := Lib.hid (K7.out.next h2 HGH.out.1 HGH.out.2 H8.out.1 H8.out.2)
      go_wp2_with fail
      with_reducible refine (dk_read q g h w8 K8.out.has hq1).mono ?_
      rintro x w9 ⟨A9, rfl, H9⟩
      have HB9 : Hid ((blk 9).length = 64) := Lib.hid rfl
      go_wp2_with (first
        | (refine wl_var rfl rfl rfl 13 rfl rfl (.tmp 97) rfl _ (blk 9) HB9.out H9.out.1 rfl rfl ?_
           intro w10 H10))
      have K10 : Hid (DkW ad w w10 g h (dk5 q)) := Lib.hid ((K8.out.under h2 H9.out.2).under h2 H10.out.below)
      have HF9 := fact64 (blk 9) HB9.out
      have HA9 : Hid ((Value.agg #[.int .u8 9, .int .u8 0, .int .u8 0, .int .u8 0, .int .u8 0, .int .u8 0, .int .u8 0, .int .u8 0, .int .u8 0, .int .u8 0, .int .u8 0, .int .u8 0, .int .u8 0, .int .u8 0, .int .u8 0, .int .u8 0, .int .u8 0, .int .u8 0, .int .u8 0, .int .u8 0, .int .u8 0, .int .u8 0, .int .u8 0, .int .u8 0, .int .u8 0, .int .u8 0, .int .u8 0, .int .u8 0, .int .u8 0, .int .u8 0, .int .u8 0, .int .u8 0, .int .u8 0, .int .u8 0, .int .u8 0, .int .u8 0, .int .u8 0, .int .u8 0, .int .u8 0, .int .u8 0, .int .u8 0, .int .u8 0, .int .u8 0, .int .u8 0, .int .u8 0, .int .u8 0, .int .u8 0, .int .u8 0, .int .u8 0, .int .u8 0, .int .u8 0, .int .u8 0, .int .u8 0, .int .u8 0, .int .u8 0, .int .u8 0, .int .u8 0, .int .u8 0, .int .u8 0, .int .u8 0, .int .u8 0, .int .u8 0, .int .u8 0, .int .u8 0]) = .agg ((blk 9).map bv).toArray) := Lib.hid (by rw [blk_lit 9 9 rfl])
      with_reducible refine (dk_off5 q g h w10 K10.out.has).mono ?_
      rintro x w11 ⟨rfl, rfl⟩
      go_wp2_with (first
        | (refine wl_loadg rfl (.tmp 13) rfl w9.heap.size 0 rfl _ H10.out.row.all HF9.out.1 ?_
           intro v11 HV11)
        | (refine wl_same rfl .eql true eql_or (.tmp 112) (.tmp 113) rfl _ _ rfl rfl (blk 9) HB9.out HV11.out HA9.out ?_))
      with_reducible refine (dk_image5 q g h w10 K10.out.has).mono ?_
      rintro x w12 ⟨A12, n12, c12, rfl, H12⟩
      have K12 := Lib.hid (K10.out.under h2 H12.out.2)
      have hcv : (convert 22 9 (.slice A12 n12 c12)).run Tryd.prog w12 = .ok (.string t) w12 := by rw [HT.out]; exact H12.out.1.str
      go_wp2_with fail
      with_reducible refine (dk_count q g h w12 K12.out.has).mono ?_
      rintro x w13 ⟨rfl, rfl⟩
      clear hcv
      go_wp2_with fail
      go_ret
      exact ⟨rfl, K12.out.below⟩
end Go.Proofs.YtadhgdjgpanddaaDoor
