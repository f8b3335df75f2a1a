/- What jackfieldlaw01.same answers of cells and the reference's cells that are alike; jackfieldnum's Bytes and Kept. -/
import Derived.Test.YtcphfgiegpnpeaaDoorRdec
import Derived.Laws.StructEq
namespace Go.Proofs.YtcphfgiegpnpeaaDoor
open Go.RowKit

theorem guard65 : Tryd.prog.eqGuardType Tryd.prog.depth 65 = false := by kernel_rfl
theorem stood65 : Tryd.prog.stoodInHeld 65 = false := by kernel_rfl
theorem fields65 : Tryd.prog.fieldsOf 65 = #[{ name := "N", type := 3, offset := 0, embedded := false, tag := "", pkgPath := "", byteOffset := 0 }, { name := "Bits", type := 50, offset := 1, embedded := false, tag := "", pkgPath := "", byteOffset := 8 }, { name := "S", type := 9, offset := 2, embedded := false, tag := "", pkgPath := "", byteOffset := 16 }] := by
  simp only [Program.fieldsOf, Tryd.underlying65]
theorem neq65 (x : FC) (W : World) : (binOp .neq 65 (.agg #[.int .i64 x.n, .int .u64 (x.f : Int), .string x.s]) (.agg #[.int .i64 x.n, .int .u64 (x.f : Int), .string x.s])).run Tryd.prog W = .ok (.bool false) W := by
  rw [run_neq_struct, run_equalIn_struct W 9999 65 _ _ (by rw [fields65]; exact Tryd.underlying65) stood65, fields65]
  simp [Op.eqFields, go_sem]

set_option maxHeartbeats 400000 in
theorem same_any (n c c2 : Nat) (G P : Option Addr) (cs : List FC) (w : World) (hn : cs.length = n) (hg : Cs w w.heap.size G cs) (hp : CsR w w.heap.size P cs) (hbig : n ≤ 1048576) :
    Calls Tryd.prog 22 #[.slice G n c, .slice P n c2] w fun e w' => e = .returned (.bool true) ∧ Below w.heap.size w w' := by
  have HN := Lib.hid hn
  have HG := Lib.hid hg
  have HP := Lib.hid hp
  clear hn hg hp
  have hgd := guard65
  go_enter Tryd.func22, Tryd.ntmps22
  go_wp2_with fail
  with_reducible refine (plain_any n c G cs w HN.out HG.out (by omega)).mono ?_
  rintro e w1 ⟨v, rfl, H1⟩
  obtain ⟨Q, qc, rfl, _, _, hq⟩ := own_rcells H1.out.1
  have HQ := Lib.hid hq
  have HB1 := Lib.hid H1.out.2
  clear hq H1
  have hsz1 : w.heap.size ≤ w1.heap.size := HB1.out.size
  go_wp2_with fail
  go_loopw [15] (fun i W => ∃ k : Nat, k ≤ n ∧ i = .int .i64 k ∧ Hid (Below w1.heap.size w1 W)) (fun i _ => n - (intOf i).toNat)
  case atStart => exact ⟨0, Nat.zero_le _, rfl, Lib.hid (Below.refl _ _)⟩
  case round =>
    obtain ⟨k, hk, rfl, HW⟩ := hrel
    by_cases hlt : k < n
    · have hkc : k < cs.length := by rw [HN.out]; exact hlt
      obtain ⟨b, o, rfl, hbB, hc0, hc1, hc2'⟩ := (HQ.out.keep HW.out).at_ hkc
      obtain ⟨b2, o2, rfl, hbB2, hd0, hd1, hd2⟩ := (HP.out.keep (HB1.out.trans (HW.out.mono hsz1))).at_ hkc
      have hszW : w1.heap.size ≤ wr.heap.size := HW.out.size
      generalize cs[k] = x at *
      have hq65 := neq65 x
      have hkI : (0 : Int) ≤ (k : Int) := by omega
      have hkI2 : (k : Int) < (n : Int) := by omega
      have hbA := (Below.refl wr.heap.size wr).alloc (Nat.le_refl _) (.cells #[.int .i64 x.n, .int .u64 (x.f : Int), .string x.s] 65)
      have hd0' := (hbA.cell (p := ⟨b2, _, none⟩) (show b2 < wr.heap.size by omega)).trans hd0
      have hd1' := (hbA.cell (p := ⟨b2, _, none⟩) (show b2 < wr.heap.size by omega)).trans hd1
      have hd2' := (hbA.cell (p := ⟨b2, _, none⟩) (show b2 < wr.heap.size by omega)).trans hd2
      have HA := Lib.hid hbA
      clear hbA
      go_wp2_with fail
      go_quiet (fail)
      go_wp2_with fail
      refine ⟨⟨k + 1, by omega, by go_num, Lib.hid ?_⟩, by simp [intOf]; omega⟩
      exact below_drewN (HW.out.trans (HA.out.mono hszW)) _
    · go_wp2_with fail
      go_ret
      exact ⟨rfl, HB1.out.trans (HW.out.mono hsz1)⟩
end Go.Proofs.YtcphfgiegpnpeaaDoor
