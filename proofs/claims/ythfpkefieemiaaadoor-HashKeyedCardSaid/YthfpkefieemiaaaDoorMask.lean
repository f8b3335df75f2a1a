/- What maskedSum answers: the sum of the key's bytes, each xor the mask. -/
import Derived.Test.YthfpkefieemiaaaDoorKey
namespace Go.Proofs.YthfpkefieemiaaaDoor
open Go.RowKit

/-- The value of a sum of the stream S. -/
def SumV (v : Value) (S : List UInt8) : Prop := ∃ blk : List UInt8, blk.length = 64 ∧ blk.take (S.length % 64) = waits S ∧ v = .agg (sumCells (regsOf S) blk (S.length % 64) S.length).toArray

theorem wl_box {w : World} {ops : Array Oper} {rest : List Oper} {o : Oper} {a : Act} {Q : Exit → Act → World → Prop} (hgd : o.guard = none) (t : TypeId) (x : Operand) (ho : o.op = .box t x) (cs : List Value) (hx : a.eval x = .agg cs.toArray)
    (h : ∀ w', Hid (Row w' w.heap.size t cs) → Hid (Below w.heap.size w w') → Hid (w'.heap.size = w.heap.size + 1) → wpList Tryd.prog ops Q rest (a.put o.dst (.pointer (some ⟨w.heap.size, 0, none⟩))) w') :
    wpList Tryd.prog ops Q (o :: rest) a w := by
  refine wpList_plain hgd fun K hK => ?_
  unfold Oper.wp execOp
  simp only [ho, Sem.run_bind, Instr.box, newVar, newRow, run_newObj_alloc, Sem.run_pure, Result.andThen_ok, hx, Value.cells]
  exact hK _ _ (h _ (Row.new w cs t) ((Below.refl _ _).alloc (Nat.le_refl _) _) (by show (w.alloc _).heap.size = _; simp))
theorem byte_xor (b m : UInt8) : bits .xor .u8 (b.toNat : Int) (m.toNat : Int) = ((b ^^^ m).toNat : Int) := by
  rw [u8_xor_nat _ _ b.toNat_lt m.toNat_lt, UInt8.toNat_xor]

def maskedL (pad : List UInt8) (m : UInt8) (k : Nat) : List UInt8 := (pad.take k).map (· ^^^ m) ++ pad.drop k
theorem maskedL_length (pad : List UInt8) (m : UInt8) (k : Nat) (h : k ≤ pad.length) : (maskedL pad m k).length = pad.length := by simp [maskedL]; omega
theorem maskedL_at (pad : List UInt8) (m : UInt8) (k : Nat) (h : k < pad.length) : (maskedL pad m k)[k]? = some pad[k] := by
  unfold maskedL
  rw [List.getElem?_append_right (by simp; omega)]
  simp [h]
  rw [Nat.min_eq_left (by omega)]
  simp
theorem maskedL_set (pad : List UInt8) (m : UInt8) (k : Nat) (h : k < pad.length) : (maskedL pad m k).set k (pad[k] ^^^ m) = maskedL pad m (k + 1) := by
  unfold maskedL
  have e1 : ((pad.take k).map (· ^^^ m)).length = k := by simp; omega
  rw [List.set_append_right _ _ (by omega), e1, Nat.sub_self, List.drop_eq_getElem_cons h, List.set_cons_zero, List.take_succ_eq_append_getElem h, List.map_append]
  simp

set_option maxHeartbeats 1000000 in
theorem masked_any (pv : Value) (pad : List UInt8) (m : UInt8) (w : World) (hK : Ktab w) (hp : pad.length = 64) (hv : Hid (pv = .agg (pad.map bv).toArray)) :
    Calls Tryd.prog 29 #[pv, .int .u8 (m.toNat : Int)] w fun e w' => ∃ v, e = .returned v ∧ Hid (SumV v (pad.map (· ^^^ m)) ∧ Below w.heap.size w w') := by
  have h0 := hK.1
  have HK := Lib.hid hK
  have HP := Lib.hid hp
  clear hK hp
  have hmx := byte_xor
  go_enter Tryd.func29, Tryd.ntmps29
  go_wp2_with (first
    | (refine wl_box rfl 45 (.tmp 0) rfl (pad.map bv) hv.out ?_
       intro w1 HA1 HB1 HZ1)
    | (refine wl_alloc rfl 48 rfl _ _ info48 ?_
       intro w2 HA2 HB2 HZ2))
  have hs1 : w.heap.size < w1.heap.size := by rw [HZ1.out]; omega
  have hs2 : w1.heap.size < w2.heap.size := by rw [HZ2.out]; omega
  have HBW2 := Lib.hid (HB1.out.trans (HB2.out.mono (by omega)))
  have HG0 := Lib.hid (HA1.out.below HB2.out (by omega))
  obtain ⟨Z, HZZ⟩ : ∃ Z, Shut (Z = List.replicate 8 (Value.int .u32 0) ++ List.replicate 64 (Value.int .u8 0) ++ [Value.int .i64 0, Value.int .u64 0]) := ⟨_, ⟨rfl⟩⟩
  have HA2' : Hid (Row w2 w1.heap.size 48 Z) := Lib.hid (by rw [HZZ.out]; exact HA2.out)
  generalize hgr : w1.heap.size = gr at *
  clear HA1 HB1 HZ1 HB2 HZ2 HA2 hgr
  go_loopw [7] (fun i W => ∃ k : Nat, k ≤ 64 ∧ i = .int .i64 k ∧ Shut (Row W w.heap.size 45 ((maskedL pad m k).map bv) ∧ Row W gr 48 Z ∧ Below w.heap.size w W)) (fun i _ => 64 - (intOf i).toNat)
  case atStart => exact ⟨0, Nat.zero_le _, rfl, ⟨by simpa [maskedL] using HG0.out, HA2'.out, HBW2.out⟩⟩
  case round =>
    obtain ⟨k, hk, rfl, HI⟩ := hrel
    by_cases hlt : k < 64
    · have hk2 : k < pad.length := by rw [HP.out]; exact hlt
      obtain ⟨b, HBB⟩ : ∃ b, Shut (b = pad[k]) := ⟨_, ⟨rfl⟩⟩
      have cb : wr.cell? ⟨w.heap.size, k, none⟩ = some (.int .u8 (b.toNat : Int)) := by
        rw [HI.out.1.cell, List.getElem?_map, maskedL_at _ _ _ hk2, HBB.out]
        rfl
      have fb : wr.frozen? ⟨w.heap.size, k, none⟩ = false := HI.out.1.frozen k
      have hkk : decide ((k : Int) < 64) = true := by simp; omega
      go_wp2_with fail
      refine ⟨⟨k + 1, by omega, by go_num, ⟨?_, ?_, ?_⟩⟩, by simp [intOf]; omega⟩
      · have h1 := HI.out.1.set k (bv (b ^^^ m))
        rw [← List.map_set, HBB.out, maskedL_set _ _ _ hk2, ← HBB.out] at h1
        exact h1
      · exact HI.out.2.1.setOther _ (by show gr ≠ w.heap.size; omega) _
      · exact HI.out.2.2.setCell (Nat.le_refl _) _
    · have HI2 : Shut (Row wr w.heap.size 45 ((pad.map (· ^^^ m)).map bv)) := ⟨by
        have h1 := HI.out.1
        have h2 : maskedL pad m k = pad.map (· ^^^ m) := by
          unfold maskedL
          rw [List.take_of_length_le (by rw [HP.out]; omega), List.drop_eq_nil_of_le (by rw [HP.out]; omega), List.append_nil]
        rwa [h2] at h1⟩
      go_wp2_with fail
      with_reducible refine (newSum_any wr).mono ?_
      rintro e w3 ⟨v, rfl, HV⟩
      have hsr : w.heap.size ≤ wr.heap.size := HI.out.2.2.size
      have hgr : gr < wr.heap.size := HI.out.2.1.lt
      have hwr : w.heap.size < wr.heap.size := HI2.out.lt
      have HB3 := Lib.hid (HI.out.2.2.trans (HV.out.2.mono hsr))
      have HP3 : Shut (Row w3 w.heap.size 45 ((pad.map (· ^^^ m)).map bv)) := ⟨HI2.out.below HV.out.2 hwr⟩
      have HZ3 : Shut (Row w3 gr 48 Z) := ⟨HI.out.2.1.below HV.out.2 hgr⟩
      obtain ⟨L, HL⟩ : ∃ L, Shut (L = sumCells H0 zeros64 0 0) := ⟨_, ⟨rfl⟩⟩
      have HZL : Shut (L.length = 74 ∧ (∀ v ∈ L, v.oneCell' = true) ∧ (Tryd.prog.info? 48).map (·.size) = some L.length) := ⟨by
        have h1 := len48 H0 0 0
        rw [HL.out]
        exact ⟨h1, sum_one _ _ _ _, by rw [h1]; exact info_size info48⟩⟩
      have HV1 : Hid (v = .agg L.toArray) := Lib.hid (by rw [HL.out]; exact HV.out.1)
      have hs3 : wr.heap.size ≤ w3.heap.size := HV.out.2.size
      obtain ⟨S, HS⟩ : ∃ S, Shut (S = pad.map (· ^^^ m)) := ⟨_, ⟨rfl⟩⟩
      have HSL : Hid (S.length = 64) := Lib.hid (by rw [HS.out, List.length_map, HP.out])
      rw [← HS.out] at HP3
      clear HI HI2 HV HG0 HA2' HBW2
      have hsl := fun w' : World => run_all w' 45 64 under45 w.heap.size 0
      go_wp2_with (first
        | (refine wl_alloc rfl 48 rfl _ _ info48 ?_
           intro w4 HA4 HB4 HZ4)
        | (refine wl_store rfl 48 (.tmp 6) (.tmp 17) rfl w3.heap.size _ L rfl HV1.out rfl 48 _ HA4.out HZL.out.2.2 (by rw [HZL.out.1]; rfl) HZL.out.2.1 ?_
           intro w5 HR5 HS5 HZ5))
      have hz4 : w3.heap.size < w4.heap.size := by rw [HZ4.out]; omega
      have HB4' := Lib.hid (HB3.out.trans (HB4.out.mono HB3.out.size))
      have HB5 := Lib.hid (HB4'.out.trans (HS5.out.below (by omega) (by omega)))
      have HP5 : Shut (Row w5 w.heap.size 45 (S.map bv)) := ⟨HS5.out.row (HP3.out.below HB4.out (by omega)) (by omega)⟩
      have HZ5' : Shut (Row w5 gr 48 Z) := ⟨HS5.out.row (HZ3.out.below HB4.out (by omega)) (by omega)⟩
      have HSM : Shut (SumT w5 w3.heap.size [] 0) := ⟨sumT_nil (by rw [← HL.out]; exact HR5.out)⟩
      have hz5 : w4.heap.size ≤ w5.heap.size := by rw [HZ5.out]; exact Nat.le_refl _
      generalize hgs : w3.heap.size = gs at *
      clear hsl HR5 HA4 HB4 HZ4 HS5 HZ5 hgs HP3 HZ3 HB3
      have HSC : Shut (Src w5 gs (some ⟨w.heap.size, 0, none⟩) S) := ⟨⟨HP5.out.rd _ (by omega), fun _ ad had => by injection had with had; rw [← had]; show w.heap.size ≠ gs; omega⟩⟩
      with_reducible refine (add_any gs [] 0 64 64 _ S w5 (HK.out.below h0 HB5.out) (by omega) HSL.out (Nat.le_refl _) (by decide) (by decide) HSC.out HSM.out).mono ?_
      rintro e w6 ⟨rfl, HA6⟩
      have HB6 := Lib.hid (HB5.out.trans (HA6.out.2.below (by omega) HB5.out.size))
      have HZ6 : Shut (Row w6 gr 48 Z) := ⟨HA6.out.2.row HZ5'.out (by omega)⟩
      obtain ⟨blk, hb1, hb2, hb3⟩ := HA6.out.1
      rw [List.nil_append, Nat.zero_add] at hb3
      rw [List.nil_append] at hb2
      obtain ⟨M, HM⟩ : ∃ M, Shut (M = sumCells (regsOf S) blk (S.length % 64) 64) := ⟨_, ⟨rfl⟩⟩
      rw [← HM.out] at hb3
      have HLM : Shut ((Tryd.prog.info? 48).map (·.size) = some M.length ∧ Z.length = M.length ∧ ∀ v ∈ M, v.oneCell' = true) := ⟨by
        have h1 : M.length = 74 := by rw [HM.out, sumCells_length _ _ _ _ hb1]
        exact ⟨by rw [h1]; exact info_size info48, by rw [h1, HZZ.out]; rfl, by rw [HM.out]; exact sum_one _ _ _ _⟩⟩
      have HR6 := Lib.hid hb3
      have HBK := Lib.hid (And.intro hb1 hb2)
      clear hb1 hb2 hb3 HA6 HSC HSM HP5 HZ5'
      have hu48 := under48
      obtain ⟨fs, hfs⟩ := hu48
      have HFS := Lib.hid hfs
      clear hfs
      go_wp2_with (first
        | (refine wl_load rfl 48 (.tmp 6) rfl gs rfl 48 _ _ HR6.out HFS.out rfl HLM.out.1 ?_
           intro vp HVP)
        | (refine wl_store rfl 48 (.tmp 4) (.tmp 20) rfl gr _ M rfl HVP.out rfl 48 _ HZ6.out HLM.out.1 HLM.out.2.1 HLM.out.2.2 ?_
           intro w8 HR8 HS8 HZ8))
      refine bodyPost_ret (v := .agg M.toArray) (results_cell_row Tryd.results29 _ w8 gr 48 _ (0, 0) _ rfl HR8.out HFS.out rfl (by simpa using HLM.out.1)) rfl ?_
      have hM : SumV (.agg M.toArray) (pad.map (· ^^^ m)) := by
        rw [← HS.out]
        exact ⟨blk, HBK.out.1, HBK.out.2, by rw [HM.out, HSL.out]⟩
      exact ⟨.agg M.toArray, rfl, Lib.hid (And.intro hM (HB6.out.trans (HS8.out.below (by omega) HB6.out.size)))⟩
end Go.Proofs.YthfpkefieemiaaaDoor
