/- The laws' alive: the chapter's examples. -/
import Derived.Test.YtooplfpffmnkfaaDoorBest
import Derived.Test.YtooplfpffmnkfaaDoorLaid
import Derived.Deep.RegionWith
namespace Go.Proofs.YtooplfpffmnkfaaDoor
open Go.RowKit

def sShop : ByteArray := ⟨#[42, 46, 115, 104, 111, 112]⟩
def sBshop : ByteArray := ⟨#[42, 46, 98, 46, 115, 104, 111, 112]⟩
def sABshop : ByteArray := ⟨#[97, 46, 98, 46, 115, 104, 111, 112]⟩
def sXBshop : ByteArray := ⟨#[120, 46, 98, 46, 115, 104, 111, 112]⟩
def sPlain : ByteArray := ⟨#[115, 104, 111, 112]⟩
def sBad : ByteArray := ⟨#[97, 46, 42, 46, 98]⟩
theorem ex1 : fitsB sShop.data.toList sABshop.data.toList = true := by decide +kernel
theorem ex2 : fitsB sShop.data.toList sPlain.data.toList = false := by decide +kernel
theorem ex3 : ov (bestL (bytesOf [sShop, sBshop, sABshop]) sXBshop.data.toList 3) = 1 := by decide +kernel
theorem ex4 : patB sBad.data.toList = false := by decide +kernel
theorem lst3 (W : World) (g : Nat) (c0 : W.cell? ⟨g, 0, none⟩ = some (.string sShop)) (c1 : W.cell? ⟨g, 1, none⟩ = some (.string sBshop)) (c2 : W.cell? ⟨g, 2, none⟩ = some (.string sABshop)) : Lst W (some ⟨g, 0, none⟩) [sShop, sBshop, sABshop] 100 := by
  refine ⟨.inr ⟨_, rfl, block_lt_of_cell c0, fun j u hj => ?_⟩, fun k hk => ?_⟩
  · have e : (⟨g, 0, none⟩ : Addr).add j = ⟨g, j, none⟩ := by simp [Addr.add]; omega
    rw [e]
    match j with
    | 0 => simp [sv] at hj; rw [← hj]; exact c0
    | 1 => simp [sv] at hj; rw [← hj]; exact c1
    | 2 => simp [sv] at hj; rw [← hj]; exact c2
    | j + 3 => simp [sv] at hj
  · match k, hk with
    | 0, _ => show (6 : Nat) ≤ 100; decide
    | 1, _ => show (8 : Nat) ≤ 100; decide
    | 2, _ => show (8 : Nat) ≤ 100; decide
    | k + 3, h => simp at h; omega

set_option maxHeartbeats 4000000 in
theorem alive_any (a : Addr) (m : Int) (w : World) (hE : Env w a m) : Calls Tryd.prog 9 #[] w fun e w' => e = .returned (.bool true) ∧ Hid (Below w.heap.size w w') := by
  have h2 := hE.lt
  have HE := Lib.hid hE
  have K1 : Hid (∀ W, Below w.heap.size w W → Calls Tryd.prog 16 #[.string ⟨#[42, 46, 115, 104, 111, 112]⟩, .string ⟨#[97, 46, 98, 46, 115, 104, 111, 112]⟩] W fun e w' => e = .returned (.bool true) ∧ Hid (Below w.heap.size w w' ∧ Below W.heap.size W w')) := Lib.hid (fun W hb => by
    have h := fits_any sShop sABshop a m W (HE.out.below h2 hb) (by decide) (by decide)
    rw [ex1] at h
    exact h.mono fun _ _ hx => ⟨hx.1, Lib.hid ⟨hb.trans (hx.2.out.mono hb.size), hx.2.out⟩⟩)
  have K2 : Hid (∀ W, Below w.heap.size w W → Calls Tryd.prog 16 #[.string ⟨#[42, 46, 115, 104, 111, 112]⟩, .string ⟨#[115, 104, 111, 112]⟩] W fun e w' => e = .returned (.bool false) ∧ Hid (Below w.heap.size w w' ∧ Below W.heap.size W w')) := Lib.hid (fun W hb => by
    have h := fits_any sShop sPlain a m W (HE.out.below h2 hb) (by decide) (by decide)
    rw [ex2] at h
    exact h.mono fun _ _ hx => ⟨hx.1, Lib.hid ⟨hb.trans (hx.2.out.mono hb.size), hx.2.out⟩⟩)
  have K3 : Hid (∀ W g, Below w.heap.size w W → W.cell? ⟨g, 0, none⟩ = some (.string ⟨#[42, 46, 115, 104, 111, 112]⟩) → W.cell? ⟨g, 1, none⟩ = some (.string ⟨#[42, 46, 98, 46, 115, 104, 111, 112]⟩) → W.cell? ⟨g, 2, none⟩ = some (.string ⟨#[97, 46, 98, 46, 115, 104, 111, 112]⟩) →
      Calls Tryd.prog 18 #[.slice (some ⟨g, 0, none⟩) 3 3, .string ⟨#[120, 46, 98, 46, 115, 104, 111, 112]⟩] W fun e w' => e = .returned (.int .i64 1) ∧ Hid (Below w.heap.size w w' ∧ Below W.heap.size W w')) := Lib.hid (fun W g hb c0 c1 c2 => by
    have h := best_any (some ⟨g, 0, none⟩) 3 100 [sShop, sBshop, sABshop] sXBshop a m W (HE.out.below h2 hb) (lst3 W g c0 c1 c2) (by decide) (by decide) (by decide) (by decide)
    exact h.mono fun _ _ hx => ⟨by rw [hx.1]; exact ret_int ex3, Lib.hid ⟨hb.trans (hx.2.out.mono hb.size), hx.2.out⟩⟩)
  have K4 : Hid (∀ W, Below w.heap.size w W → Calls Tryd.prog 10 #[.string ⟨#[97, 46, 42, 46, 98]⟩] W fun e w' => e = .returned (.iface 57 (.pointer (some a))) ∧ Hid (Below w.heap.size w w' ∧ Below W.heap.size W w')) := Lib.hid (fun W hb => by
    have h := check_any sBad a m W (HE.out.below h2 hb)
    rw [ex4] at h
    exact h.mono fun _ _ hx => ⟨hx.1, Lib.hid ⟨hb.trans (hx.2.out.mono hb.size), hx.2.out⟩⟩)
  have D0 : Hid (∀ W, Below w.heap.size w W → W.cell? ⟨0, 0, none⟩ = some (.iface 57 (.pointer (some a)))) := Lib.hid (fun W hb => (HE.out.below h2 hb).c0)
  have CL : Hid (∀ W : World, (W.alloc (.cells #[.string ⟨#[42, 46, 115, 104, 111, 112]⟩, .string ⟨#[42, 46, 98, 46, 115, 104, 111, 112]⟩, .string ⟨#[97, 46, 98, 46, 115, 104, 111, 112]⟩] 9)).cell? ⟨W.heap.size, 0, none⟩ = some (.string ⟨#[42, 46, 115, 104, 111, 112]⟩) ∧ (W.alloc (.cells #[.string ⟨#[42, 46, 115, 104, 111, 112]⟩, .string ⟨#[42, 46, 98, 46, 115, 104, 111, 112]⟩, .string ⟨#[97, 46, 98, 46, 115, 104, 111, 112]⟩] 9)).cell? ⟨W.heap.size, 1, none⟩ = some (.string ⟨#[42, 46, 98, 46, 115, 104, 111, 112]⟩) ∧ (W.alloc (.cells #[.string ⟨#[42, 46, 115, 104, 111, 112]⟩, .string ⟨#[42, 46, 98, 46, 115, 104, 111, 112]⟩, .string ⟨#[97, 46, 98, 46, 115, 104, 111, 112]⟩] 9)).cell? ⟨W.heap.size, 2, none⟩ = some (.string ⟨#[97, 46, 98, 46, 115, 104, 111, 112]⟩)) := Lib.hid (fun W => ⟨by simp, by simp, by simp⟩)
  have hes := fun W : World => err_same a W
  clear hE
  go_enter Tryd.func9, Tryd.ntmps9
  go_wp2_with fail
  go_region_with (first
    | (go_at_call 16; (with_reducible refine (K1.out _ (by first | exact below_drew w | exact (below_alloc w _).drew)).mono ?_); rintro e w1 ⟨rfl, HV1⟩)
    | (go_at_call 16; (with_reducible refine (K2.out _ (by first | exact HV1.out.1 | exact HV1.out.1.alloc HV1.out.1.size _)).mono ?_); rintro e w2 ⟨rfl, HV2⟩)
    | (go_at_call 18; (with_reducible refine (K3.out _ _ (by first | exact HV2.out.1 | exact HV2.out.1.alloc HV2.out.1.size _)
        (by first | exact (CL.out _).1 | exact cell_below HV2.out.2 (CL.out w1).1 | exact cell_below HV2.out.2 (cell_below HV1.out.2 (CL.out w).1))
        (by first | exact (CL.out _).2.1 | exact cell_below HV2.out.2 (CL.out w1).2.1 | exact cell_below HV2.out.2 (cell_below HV1.out.2 (CL.out w).2.1))
        (by first | exact (CL.out _).2.2 | exact cell_below HV2.out.2 (CL.out w1).2.2 | exact cell_below HV2.out.2 (cell_below HV1.out.2 (CL.out w).2.2))).mono ?_); rintro e w3 ⟨rfl, HV3⟩; have d3 := D0.out w3 HV3.out.1)
    | (go_at_call 10; (with_reducible refine (K4.out _ HV3.out.1).mono ?_); rintro e w4 ⟨rfl, HV4⟩; have d4 := D0.out w4 HV4.out.1))
  all_goals
    go_wp2_with fail
    go_ret
    exact ⟨rfl, Lib.hid HV4.out.1⟩
end Go.Proofs.YtooplfpffmnkfaaDoor
