/- The reference's right and Join, the law's few, jackfieldnum's Bytes and Kept. -/
import Derived.Test.YthfpkefieemiaaaDoorChecksw
namespace Go.Proofs.YthfpkefieemiaaaDoor
open Go.RowKit

set_option maxHeartbeats 400000 in
theorem rright_any (x : Wd) (n : Nat) (w : World) (h0 : 0 < n) (h : n < 32) :
    Calls Tryd.prog 27 #[.int .u32 (U x), .int .u64 (n : Int)] w fun e w' => e = .returned (.int .u32 (U (rotr x n))) ∧ w = w' := by
  have hs : IntKind.u64.wrap (32 - (n : Int)) = ((32 - n : Nat) : Int) := by rw [IntKind.wrap_u64]; omega
  have hnn : (0 : Int) ≤ ((32 - n : Nat) : Int) := by omega
  go_enter Tryd.func27, Tryd.ntmps27
  go_wp2

  go_ret
  exact ⟨ret_int (by rw [u_shl', u_shr, u_or]; unfold rotr; rw [BitVec.or_comm]), rfl⟩

/-- How many bytes and parts: as few counts them. -/
def countP : List Part → Nat → Bool
  | [], n => decide (n ≤ 20000)
  | p :: ps, n => if 20000 < n ∨ 20000 < p.bs.length then false else countP ps (n + (1 + p.bs.length))
theorem countP_small : ∀ (ps : List Part) (n : Nat), countP ps n = true → n + ps.length + (flat ps).length ≤ 20000
  | [], n, h => by simpa [countP, flat] using h
  | p :: ps, n, h => by
    unfold countP at h
    split at h
    · cases h
    · have ih := countP_small ps _ h
      unfold flat at ih ⊢
      simp only [List.flatMap_cons, List.length_append, List.length_cons]
      omega

set_option maxHeartbeats 400000 in
theorem few_any (n c : Nat) (A : Option Addr) (ps : List Part) (w : World) (hn : ps.length = n) (hmax : n ≤ 9223372036854775807) (hr : Parts w w.heap.size A ps) :
    Calls Tryd.prog 11 #[.slice A n c] w fun e w' => e = .returned (.bool (countP ps 0)) ∧ w = w' := by
  have HN := Lib.hid hn
  have HR := Lib.hid hr
  clear hn hr
  obtain ⟨r, HRR⟩ : ∃ r, Shut (countP ps 0 = r) := ⟨_, ⟨rfl⟩⟩
  rw [HRR.out]
  go_enter Tryd.func11, Tryd.ntmps11
  go_wp2_with fail
  go_loop [3, 8] (fun v i => ∃ k t : Nat, k ≤ n ∧ t ≤ 40001 ∧ i = .int .i64 k ∧ v = .int .i64 t ∧ Shut (countP (ps.drop k) t = r)) (fun _ i => n - (intOf i).toNat)
  case atStart => exact ⟨0, 0, Nat.zero_le _, by omega, rfl, rfl, ⟨by rw [List.drop_zero]; exact HRR.out⟩⟩
  case round =>
    obtain ⟨k, t, hk, ht, rfl, rfl, HC⟩ := hrel
    by_cases hlt : k < n
    · have hlt' : k < ps.length := by rw [HN.out]; exact hlt
      obtain ⟨ad, rfl, _, hc⟩ := HR.out.rd.cell (k := k) (u := (ps[k]).v) (by simp [hlt'])
      have hok := HR.out.ok ps[k] (List.getElem_mem hlt')
      have hcc := HC.out
      rw [List.drop_eq_getElem_cons hlt'] at hcc
      generalize ps[k] = p at *
      obtain ⟨pa, pc, pb⟩ := p
      unfold Part.v at hc
      obtain ⟨h1, h2, _⟩ := hok
      dsimp only at *
      obtain ⟨m, HM⟩ : ∃ m, Hid (pb.length = m) := ⟨_, rfl⟩
      rw [HM.out] at hc h1
      unfold countP at hcc
      dsimp only at hcc
      rw [HM.out] at hcc
      by_cases hb1 : 20000 < t
      · rw [if_pos (.inl hb1)] at hcc
        have HF := Lib.hid hcc
        clear hcc
        go_wp2_with fail
        go_ret
        exact ⟨ret_bool HF.out, rfl⟩
      · by_cases hb2 : 20000 < m
        · rw [if_pos (.inr hb2)] at hcc
          have HF := Lib.hid hcc
          clear hcc
          go_wp2_with fail
          go_ret
          exact ⟨ret_bool HF.out, rfl⟩
        · rw [if_neg (by omega)] at hcc
          have HF := Lib.hid hcc
          clear hcc
          go_wp2_with fail
          exact ⟨⟨k + 1, t + (1 + m), by omega, by omega, by go_num, by go_num, ⟨HF.out⟩⟩, by simp [intOf]; omega⟩
    · have HF : Hid (decide (t ≤ 20000) = r) := Lib.hid (by
        have h1 := HC.out
        rw [List.drop_eq_nil_of_le (by rw [HN.out]; omega)] at h1
        exact h1)
      go_wp2_with fail
      go_ret
      refine ⟨ret_bool ?_, rfl⟩
      rw [← HF.out]
      by_cases h : t ≤ 20000
      · have h9 : (t : Int) ≤ 20000 := by omega
        simp [h, h9]
      · have h9 : ¬ (t : Int) ≤ 20000 := by omega
        simp [h, h9]

set_option maxHeartbeats 400000 in
theorem join_any (n c : Nat) (A : Option Addr) (ps : List Part) (w : World) (hn : ps.length = n) (hmax : n ≤ 9223372036854775807) (hT : (flat ps).length ≤ 20000) (hr : Parts w w.heap.size A ps) :
    Calls Tryd.prog 17 #[.slice A n c] w fun e w' => ∃ v, e = .returned v ∧ Hid (w'.ownsRow w.heap.size 5 1 v (flat ps).length ((flat ps).map bv) ∧ Below w.heap.size w w') := by
  have HN := Lib.hid hn
  have HR := Lib.hid hr
  have HT := Lib.hid hT
  clear hn hr hT
  go_enter Tryd.func17, Tryd.ntmps17
  go_wp2_with fail
  go_loopw [3, 9] (fun v i W => ∃ k : Nat, k ≤ n ∧ i = .int .i64 k ∧ Shut (W.ownsRow w.heap.size 5 1 v (flat (ps.take k)).length ((flat (ps.take k)).map bv) ∧ Below w.heap.size w W)) (fun _ i _ => n - (intOf i).toNat)
  case atStart => exact ⟨0, Nat.zero_le _, rfl, ⟨own_empty w w.heap.size (Nat.le_refl _), below_alloc w _⟩⟩
  case round =>
    obtain ⟨k, hk, rfl, HI⟩ := hrel
    by_cases hlt : k < n
    · have hlt' : k < ps.length := by rw [HN.out]; exact hlt
      have HB := Lib.hid HI.out.2
      obtain ⟨ad, rfl, _, hc⟩ := (HR.out.below HB.out).rd.cell (k := k) (u := (ps[k]).v) (by simp [hlt'])
      have hok := (HR.out.below HB.out).ok ps[k] (List.getElem_mem hlt')
      have hfl := flat_le ps k hlt'
      have hft := flat_take ps k hlt'
      generalize ps[k] = p at *
      obtain ⟨pa, pc, pb⟩ := p
      unfold Part.v at hc
      obtain ⟨h1, h2, h3⟩ := hok
      dsimp only at *
      obtain ⟨m, HM⟩ : ∃ m, Hid (pb.length = m) := ⟨_, rfl⟩
      rw [HM.out] at hc h1 hfl
      have HFL := Lib.hid hfl
      have HFT := Lib.hid hft
      have HP := Lib.hid h3
      clear hfl hft h3
      go_wp2_with (first
        | (refine wl_append rfl (.tmp 13) (.tmp 14) rfl w.heap.size u3 _ _ rfl HI.out.1 w.heap.size pa m pc pb rfl HM.out HP.out (by have := HFL.out; have := HT.out; omega) HB.out.size ?_
           intro v3 w3 HA3))
      refine ⟨⟨k + 1, by omega, by go_num, ⟨?_, HB.out.grown HA3.out.2 HB.out.size (fun j hj => (HI.out.1.lt j hj).1)⟩⟩, by simp [intOf]; omega⟩
      rw [HFT.out, List.length_append, HM.out, List.map_append]
      exact HA3.out.1
    · go_wp2_with fail
      go_ret
      have h1 := HI.out
      rw [List.take_of_length_le (by rw [HN.out]; omega)] at h1
      exact ⟨_, rfl, Lib.hid h1⟩
end Go.Proofs.YthfpkefieemiaaaDoor
