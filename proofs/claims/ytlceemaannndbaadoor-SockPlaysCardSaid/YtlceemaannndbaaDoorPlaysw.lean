/- The law SockPlays, walked. -/
import Derived.Test.YtlceemaannndbaaDoorPjoin
import Derived.Deep.CutBlock
namespace Go.Proofs.YtlceemaannndbaaDoor
open Go.RowKit

set_option maxHeartbeats 16000000 in
set_option maxRecDepth 100000 in
theorem plays_good (ad : Nat → Addr) (room : Nat) (A : Option Addr) (L c : Nat) (os : List OpV) (w : World) (hE : Eighteen w ad) (h3 : 3 ≤ w.heap.size) (hL : os.length = L) (hLc : L ≤ c) (hcm : c ≤ 9223372036854775807) (hr : OpsAt w w.heap.size A os)
    (hsz : ∀ o ∈ os, o.bytes.length ≤ reachBytes) (b1 : 1 ≤ room) (b2 : room ≤ 65536) :
    Calls Tryd.prog 3 #[.int .i64 (room : Int), .slice A L c] w fun e w' => e = .returned (.bool true) ∧ Below w.heap.size w w' := by
  have HE := Lib.hid hE
  have HL := Lib.hid hL
  have HR := Lib.hid hr
  have HSZ := Lib.hid hsz
  clear hE hL hr hsz
  have HU := Lib.hid (And.intro hLc hcm)
  clear HU
  have hz1 : ¬ (room : Int) < 1 := by omega
  have hz2 : ¬ 65536 < (room : Int) := by omega
  go_enter Tryd.func3, Tryd.ntmps3
  go_wp2_with fail
  with_reducible refine (alive_any ad w HE.out.errs h3).mono ?_
  rintro x w1 ⟨rfl, H1⟩
  go_wp2_with fail
  with_reducible refine (h_new (B := w1.heap.size) (K := fun k => k < w1.heap.size) room _ rfl w1 (by omega) (by omega) (fun k h => h) (Nat.le_refl _)).mono ?_
  rintro x w2 ⟨rfl, H2⟩
  have HI2 := Lib.hid (play_start b2 H2.out)
  have hgh : w1.heap.size ≤ w2.heap.size := H2.out.2.size
  clear H2
  go_wp2_with fail
  go_loopg [57] L (fun gk i w' => ∃ k : Nat, k ≤ L ∧ gk = L - k ∧ i = .int .i64 k ∧ Hid (PlayI w1 w' w1.heap.size w1.heap.size w2.heap.size k))
  case atStart => exact ⟨0, Nat.zero_le _, rfl, rfl, HI2.out⟩
  case round =>
    obtain ⟨k, hk, rfl, rfl, HI⟩ := hrel
    have HBW : Hid (Below w.heap.size w wr) := Lib.hid (H1.out.trans ((HI.out.2.below (fun k h => h)).mono H1.out.size))
    by_cases hlt : k < L
    rotate_left
    · go_wp2_with fail
      go_ret
      exact ⟨rfl, HBW.out⟩
    obtain ⟨b, off, kd, ed, nn, Ao, cap, bts, rfl, hb, HOK, g0, g1, g2, g3⟩ := (HR.out.below HBW.out).get2 (k := k) (by rw [HL.out]; exact hlt)
    by_cases h300 : 300 < k
    · go_wp2_with fail
      go_ret
      exact ⟨rfl, HBW.out.alloc HBW.out.size _⟩
    go_upto_block 2 with fail
    have hbig : w1.heap.size ≤ wr.heap.size := HI.out.2.size
    obtain ⟨P, R, HP⟩ : ∃ P R, Hid (Both wr w1.heap.size (fun k => k < w1.heap.size) w1.heap.size w2.heap.size P R ∧ Sim k P R) := by
      obtain ⟨P, R, h⟩ := HI.out.1
      exact ⟨P, R, Lib.hid h⟩
    have HKB : Hid (Below wr.heap.size wr (wr.alloc (.cells #[.int .i64 kd, .int .i64 ed, .int .i64 nn, .slice Ao bts.length cap] 37))) := Lib.hid ((Below.refl _ _).alloc (Nat.le_refl _) _)
    have HB := Lib.hid (HP.out.1.below HKB.out)
    have HROW : Hid (Row (wr.alloc (.cells #[.int .i64 kd, .int .i64 ed, .int .i64 nn, .slice Ao bts.length cap] 37)) wr.heap.size 37 [.int .i64 kd, .int .i64 ed, .int .i64 nn, .slice Ao bts.length cap]) := Lib.hid (Row.new wr _ 37)
    have HEK : Hid (∀ w', Keep (fun k => k < w1.heap.size) wr w' → Eighteen w' ad ∧ Rd w' w'.heap.size Ao (bts.map bv)) := Lib.hid (fun w' hk' => by
      have hb' : Below w.heap.size wr w' := (hk'.below (fun k h => h)).mono H1.out.size
      exact ⟨HE.out.below HE.out.lt (HBW.out.trans hb'), (HOK.out.1.rd.below hb').more (Nat.le_trans HBW.out.size hk'.size)⟩)
    have HK0 : Hid (Keep (fun k => k < w1.heap.size) wr (wr.alloc (.cells #[.int .i64 kd, .int .i64 ed, .int .i64 nn, .slice Ao bts.length cap] 37))) := Lib.hid (Keep.of_below HKB.out (fun k h => by omega))
    have hcap1 : bts.length ≤ cap := HOK.out.1.len
    have hcap2 : cap ≤ 9223372036854775807 := by have := HOK.out.1.cap; simp only [maxLen] at this; omega
    have hn2 : nn ≤ 9223372036854775807 := HOK.out.1.n2
    have hbyt : bts.length ≤ 140737488351232 := HSZ.out _ HOK.out.2
    have hbx : wr.heap.size < (wr.alloc (.cells #[.int .i64 kd, .int .i64 ed, .int .i64 nn, .slice Ao bts.length cap] 37)).heap.size := by simp
    refine blk2_any ad w1 w2 wr P R k kd ed nn Ao cap bts HI.out.2 HP.out HEK.out hgh hbig (by omega) hcap1 hcap2 hn2 hbyt _ _ _ _ _ _ _ _ _ _ _ _ _ _ _ _ _ _ _ _ _ _ _ _ _ _ _ _ _ _ _ _ _ _ _ _ _ _ _ _ _ _ _ _ _ _ _ _ _ _ _ _ _ _ _ _ _ _ _ _ _ _ _ _ _ _ _ _ _ _ _ _ _ _ _ _ _ _ _ _ _ _ _ _ _ _ _ _ _ _ _ _ _ _ _ _ _ _ _ _ _ _ _ _ _ _ _ _ _ _ _ _ _ _ _ _ _ _ _ _ _ _ _ _ _ _ _ _ _ _ _ _ _ _ _ _ _ _ _ _ _ _ _ _ _ _ _ _ _ _ _ _ _ _ _ _ _ _ _ _ _ _ _ _ _ _ _ _ _ _ _ _ _ _ _ _ _ _ _ _ _ _ _ _ _ _ _ _ _ _ _ _ _ _ _ _ _ _ _ _ _ _ _ _ _ _ _ _ _ _ _ _ _ _ _ _ _ _ _ _ _ _ _ _ _ _ _ _ _ _ _ _ _ _ _ _ _ _ _ _ _ _ _ _ _ _ _ _ _ _ _ _ _ _ _ _ _ _ _ _ _ _ _ _ _ _ _ _ _ _ _ _ _ _ _ _ _ _ _ _ _ ?_
    intro f1 wc HJ0
    have HJ := Lib.hid HJ0
    clear HJ0 HI HBW HP HB HROW HEK HK0 HOK g0 g1 g2 g3 HKB
    obtain ⟨P1, R1, HB1⟩ := hid_two (Lib.hid HJ.out.1)
    have cc := HB1.out.1.cutcell
    obtain ⟨cb, HCB⟩ : ∃ cb, Hid (R1.cut = cb) := ⟨_, Lib.hid rfl⟩
    have HPC : Hid (P1.cut = cb) := Lib.hid (by rw [HB1.out.2.cut, HCB.out])
    rw [HCB.out] at cc
    have hbb : (cb != cb) = false := by simp
    unfold fr2
    go_wp2_with fail
    go_quiet ((go_at_call 22; exact quietL (a_broken _ _ (HB1.out.1.stay (Stay.drewN wc _)) HPC.out)))
    go_upto_block 5 with fail
    have HJ1 : Hid (PlayI w1 (wc.drewN nq) w1.heap.size w1.heap.size w2.heap.size (k + 1)) := Lib.hid ⟨⟨P1, R1, HB1.out.1.stay (Stay.drewN wc nq), HB1.out.2⟩, HJ.out.2.trans (Keep.stay (Stay.drewN wc nq))⟩
    refine pc5 w1 w2 k _ HJ1.out hgh _ _ _ _ _ _ _ _ _ _ _ _ _ _ _ _ _ _ _ _ _ _ _ _ _ _ _ _ _ _ _ _ _ _ _ _ _ _ _ _ _ _ _ _ _ _ _ _ _ _ _ _ _ _ _ _ _ _ _ _ _ _ _ _ _ _ _ _ _ _ _ _ _ _ _ _ _ _ _ _ _ _ _ _ _ _ _ _ _ _ _ _ _ _ _ _ _ _ _ _ _ _ _ _ _ _ _ _ _ _ _ _ _ _ _ _ _ _ _ _ _ _ _ _ _ _ _ _ _ _ _ _ _ _ _ _ _ _ _ _ _ _ _ _ _ _ _ _ _ _ _ _ _ _ _ _ _ _ _ _ _ _ _ _ _ _ _ _ _ _ _ _ _ _ _ _ _ _ _ _ _ _ _ _ _ _ _ _ _ _ _ _ _ _ _ _ _ _ _ _ _ _ _ _ _ _ _ _ _ _ _ _ _ _ _ _ _ _ _ _ _ _ _ _ _ _ _ _ _ _ _ _ _ _ _ _ _ _ _ _ _ _ _ _ _ _ _ _ _ _ _ _ _ _ _ _ _ _ _ _ _ _ _ _ _ _ _ _ _ _ _ _ _ _ _ _ _ _ _ _ _ _ ?_
    intro f2 wd HJ2
    have HJ3 := Lib.hid HJ2
    clear HJ2
    unfold fr5
    go_wp2_with fail
    go_roundg (L - (k + 1))
    case measure => omega
    case rel => exact ⟨k + 1, by omega, by omega, by go_num, HJ3⟩
end Go.Proofs.YtlceemaannndbaaDoor
