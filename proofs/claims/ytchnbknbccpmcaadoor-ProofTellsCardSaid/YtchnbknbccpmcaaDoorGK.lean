/- The keyed sum of a key and parts. -/
import Derived.Test.YtchnbknbccpmcaaDoorGA
namespace Go.Proofs.YtchnbknbccpmcaaDoor.H
open Go.RowKit


set_option maxHeartbeats 1000000 in
theorem padKey_any (n c : Nat) (A : Option Addr) (key : List UInt8) (w : World) (hK : Ktab w) (hn : key.length = n) (hc : n ≤ c) (hm : c ≤ 9223372036854775807) (hT : n < 1152921504606846976) (hr : Rd w w.heap.size A (key.map bv)) :
    Calls Tryd.prog 61 #[.slice A n c] w fun e w' => ∃ v, e = .returned v ∧ Hid (v = .agg ((padK key).map bv).toArray ∧ Below w.heap.size w w') := by
  have h0 := hK.1
  have HK := Lib.hid hK
  have HN := Lib.hid hn
  have HR := Lib.hid hr
  clear hK hn hr
  obtain ⟨P, HP⟩ : ∃ P, Shut (P = (padK key).map bv) := ⟨_, ⟨rfl⟩⟩
  have HLP : Shut ((Tryd.prog.info? 95).map (·.size) = some P.length ∧ (List.replicate 64 (Value.int .u8 0)).length = P.length ∧ P.length = 64 ∧ ∀ v ∈ P, v.oneCell' = true) := ⟨by
    have h1 : P.length = 64 := by rw [HP.out, List.length_map, padK_length]
    exact ⟨by rw [h1]; exact info_size info45, by rw [h1]; exact List.length_replicate, h1, by rw [HP.out]; exact bytes_one _⟩⟩
  have hP : ∀ v, Hid (v = Value.agg P.toArray) → v = .agg ((padK key).map bv).toArray := fun v h => by rw [h.out, HP.out]
  have HPV := Lib.hid hP
  clear hP
  go_enter Tryd.func61, Tryd.ntmps61
  by_cases hlt : 64 < n
  · go_wp2_with (first
      | (refine wl_allocAt rfl 95 rfl 2 rfl _ _ info45 ?_
         intro w1 HA1 HB1 HZ1)
      | (refine wl_allocAt rfl 95 rfl 3 rfl _ _ info45 ?_
         intro w2 HA2 HB2 HZ2))
    have hs1 : w.heap.size < w1.heap.size := by rw [HZ1.out]; omega
    have hs2 : w1.heap.size < w2.heap.size := by rw [HZ2.out]; omega
    have HBW2 := Lib.hid (HB1.out.trans (HB2.out.mono (by omega)))
    have HG0 := Lib.hid (HA1.out.below HB2.out (by omega))
    have HB3 : Hid (Below w2.heap.size w2 (w2.alloc (.cells #[.slice A n c] 22))) := Lib.hid ((Below.refl _ _).alloc (Nat.le_refl _) _)
    have HPS := Lib.hid (one_part w2 A n c key HN.out hc hm ((HR.out.below HBW2.out).more (by omega)))
    have HK3 := Lib.hid (HK.out.below h0 (HBW2.out.trans (HB3.out.mono (by omega))))
    have HF1 : Hid (flat [⟨A, c, key⟩] = key) := Lib.hid (flat_one A c key)
    with_reducible refine (digest_any 1 1 _ [⟨A, c, key⟩] _ HK3.out rfl (by decide) (by rw [HF1.out, HN.out]; exact hT) HPS.out).mono ?_
    rintro e w4 ⟨v, rfl, HV⟩
    obtain ⟨D, HD⟩ : ∃ D, Shut (D = (digest key).map bv) := ⟨_, ⟨rfl⟩⟩
    have HVD : Hid (v = .agg D.toArray) := Lib.hid (by rw [HD.out]; have := HV.out.1; rwa [HF1.out] at this)
    have HLD : Shut ((Tryd.prog.info? 85).map (·.size) = some D.length ∧ (List.replicate 32 (Value.int .u8 0)).length = D.length ∧ D.length = 32 ∧ ∀ v ∈ D, v.oneCell' = true) := ⟨by
      have h1 : D.length = 32 := by rw [HD.out]; exact digest_len _
      exact ⟨by rw [h1]; exact info_size info27, by rw [h1]; exact List.length_replicate, h1, by rw [HD.out]; exact bytes_one _⟩⟩
    have hb24 : Below w2.heap.size w2 w4 := HB3.out.trans (HV.out.2.mono (by simp))
    have HB4 := Lib.hid (HBW2.out.trans (hb24.mono (by omega)))
    have HG04 := Lib.hid (HG0.out.below hb24 (by omega))
    have HGP4 := Lib.hid (HA2.out.below hb24 (by omega))
    have hs4 : w2.heap.size ≤ w4.heap.size := hb24.size
    generalize hgp : w1.heap.size = gp at *
    clear HV hb24 HB3 HPS HK3 HA1 HA2 HB1 HB2 HZ1 HZ2 HBW2 HG0 hgp
    have hsl1 := fun w' : World => run_all w' 95 64 under45 gp 0
    have hsl2 := fun w' : World => run_all w' 85 32 under27 w4.heap.size 0
    go_wp2_with (first
      | (refine wl_alloc rfl 85 rfl _ _ info27 ?_
         intro w5 HA5 HB5 HZ5)
      | (refine wl_store rfl 85 (.tmp 4) (.tmp 10) rfl w4.heap.size _ D rfl HVD.out rfl 85 _ HA5.out HLD.out.1 HLD.out.2.1 HLD.out.2.2.2 ?_
         intro w6 HR6 HS6 HZ6))
    have hz5 : w4.heap.size < w5.heap.size := by rw [HZ5.out]; omega
    have hz6 : w5.heap.size ≤ w6.heap.size := by rw [HZ6.out]; exact Nat.le_refl _
    have HG06 := Lib.hid (HS6.out.row (HG04.out.below HB5.out (by omega)) (by omega))
    have HGP6 := Lib.hid (HS6.out.row (HGP4.out.below HB5.out (by omega)) (by omega))
    have HB6 : Hid (Below w.heap.size w w6) := Lib.hid ((HB4.out.trans (HB5.out.mono HB4.out.size)).trans (HS6.out.below HB4.out.size (by omega)))
    have hsrc : ∀ j v, D[j]? = some v → w6.drew.cell? ((⟨w4.heap.size, 0, none⟩ : Addr).add j) = some v := fun j v hj => by
      rw [Addr.add_mid, Nat.zero_add]
      exact (HR6.out.cell j).trans hj
    have hrw : Row w6.drew gp 95 (List.replicate 64 (.int .u8 0)) := HGP6.out
    have HSR := Lib.hid hsrc
    have HRW := Lib.hid hrw
    clear hsrc hrw
    go_region_law (refine step_copy_sole rfl (.tmp 11) (.tmp 12) rfl gp 0 64 64 ⟨w4.heap.size, 0, none⟩ 32 32 rfl rfl _ 95 HRW.out D (by rw [HLD.out.2.2.1]; rfl) HSR.out (by rw [HLD.out.2.2.1]; decide) HLD.out.2.2.2 ?_; intro w7 HW7)
    clear hsl1 hsl2
    have HR7 : Hid (Row w7 gp 95 P) := Lib.hid (by
      have h1 := HW7.out.1
      have h2 : splice (List.replicate 64 (Value.int .u8 0)) 0 D = P := by
        rw [HD.out, splice_zero _ _ (by rw [digest_length]; decide), HP.out]
        unfold padK
        rw [if_pos (by rw [HN.out]; exact hlt), digest_length]
      rwa [h2] at h1)
    have HS7 : Hid (Sole gp w6 w7) := Lib.hid HW7.out.2.1.of_drew
    have HG07 := Lib.hid (HS7.out.row HG06.out (by omega))
    have HB7 := Lib.hid (HB6.out.trans (HS7.out.below (by omega) HB6.out.size))
    go_wp2_with (first
      | (refine wl_load rfl 95 (.tmp 3) rfl gp rfl 95 _ _ HR7.out under45 rfl HLP.out.1 ?_
         intro vp HVP)
      | (refine wl_store rfl 95 (.tmp 2) (.tmp 14) rfl w.heap.size _ P rfl HVP.out rfl 95 _ HG07.out HLP.out.1 HLP.out.2.1 HLP.out.2.2.2 ?_
         intro w8 HR8 HS8 HZ8))
    refine bodyPost_ret (v := .agg P.toArray) (results_cell_row Tryd.results61 _ w8 w.heap.size 95 _ (0, 0) _ rfl HR8.out under45 rfl (by simpa using HLP.out.1)) rfl ?_
    exact ⟨.agg P.toArray, rfl, Lib.hid (And.intro (HPV.out _ (Lib.hid rfl)) (HB7.out.trans (HS8.out.below (Nat.le_refl _) HB7.out.size)))⟩
  · have hsl1 := fun (w' : World) (g : Nat) => run_all w' 95 64 under45 g 0
    have hkl : (key.map bv).length = Nat.min n 64 := by rw [List.length_map, HN.out]; exact (Nat.min_eq_left (by omega)).symm
    have HKL := Lib.hid hkl
    clear hkl
    go_wp2_with (first
      | (refine wl_allocAt rfl 95 rfl 2 rfl _ _ info45 ?_
         intro w1 HA1 HB1 HZ1)
      | (refine wl_allocAt rfl 95 rfl 3 rfl _ _ info45 ?_
         intro w2 HA2 HB2 HZ2
         have hs1 : w.heap.size < w1.heap.size := by rw [HZ1.out]; omega
         have hs2 : w1.heap.size < w2.heap.size := by rw [HZ2.out]; omega
         have HBW2 := Lib.hid (HB1.out.trans (HB2.out.mono (by omega)))
         have HG0 := Lib.hid (HA1.out.below HB2.out (by omega)))
      | (refine wl_copy rfl (.tmp 15) (.tmp 16) rfl w1.heap.size 0 64 64 A n c rfl rfl _ 95 HA2.out (key.map bv) HKL.out ((HR.out.below HBW2.out).more HBW2.out.size) (by rw [HKL.out]; show 0 + min n 64 ≤ _; simp; omega) (bytes_one _) ?_
         intro w3 HW3
         have HR3 : Hid (Row w3 w1.heap.size 95 P) := Lib.hid (by
           have h1 := HW3.out.1
           have h2 : splice (List.replicate 64 (Value.int .u8 0)) 0 (key.map bv) = P := by
             rw [splice_zero _ _ (by rw [HN.out]; omega), HP.out]
             unfold padK
             rw [if_neg (by rw [HN.out]; exact hlt)]
           rwa [h2] at h1)
         have HG3 := Lib.hid (HW3.out.2.1.row HG0.out (by omega))
         have HB3 := Lib.hid (HBW2.out.trans (HW3.out.2.1.below (by omega) HBW2.out.size)))
      | (refine wl_load rfl 95 (.tmp 3) rfl w1.heap.size rfl 95 _ _ HR3.out under45 rfl HLP.out.1 ?_
         intro vp HVP)
      | (refine wl_store rfl 95 (.tmp 2) (.tmp 18) rfl w.heap.size _ P rfl HVP.out rfl 95 _ HG3.out HLP.out.1 HLP.out.2.1 HLP.out.2.2.2 ?_
         intro w8 HR8 HS8 HZ8))
    refine bodyPost_ret (v := .agg P.toArray) (results_cell_row Tryd.results61 _ w8 w.heap.size 95 _ (0, 0) _ rfl HR8.out under45 rfl (by simpa using HLP.out.1)) rfl ?_
    exact ⟨.agg P.toArray, rfl, Lib.hid (And.intro (HPV.out _ (Lib.hid rfl)) (HB3.out.trans (HS8.out.below (Nat.le_refl _) HB3.out.size)))⟩
/-- The value of a sum of the stream S. -/
def SumV (v : Value) (S : List UInt8) : Prop := ∃ blk : List UInt8, blk.length = 64 ∧ blk.take (S.length % 64) = waits S ∧ v = .agg (sumCells (regsOf S) blk (S.length % 64) S.length).toArray

theorem wl_box {w : World} {ops : Array Oper} {rest : List Oper} {o : Oper} {a : Act} {Q : Exit → Act → World → Prop} (hgd : o.guard = none) (t : TypeId) (x : Operand) (ho : o.op = .box t x) (cs : List Value) (hx : a.eval x = .agg cs.toArray)
    (h : ∀ w', Hid (Row w' w.heap.size t cs) → Hid (Below w.heap.size w w') → Hid (w'.heap.size = w.heap.size + 1) → wpList Tryd.prog ops Q rest (a.put o.dst (.pointer (some ⟨w.heap.size, 0, none⟩))) w') :
    wpList Tryd.prog ops Q (o :: rest) a w := by
  refine wpList_plain hgd fun K hK => ?_
  unfold Oper.wp execOp
  simp only [ho, Sem.run_bind, Instr.box, newVar, newRow, run_newObj_alloc, Sem.run_pure, Result.andThen_ok, hx, Value.cells]
  exact hK _ _ (h _ (Row.new w cs t) ((Below.refl _ _).alloc (Nat.le_refl _) _) (by show (w.alloc _).heap.size = _; simp))
theorem byte_xor (b m : UInt8) : bits .xor .u8 (b.toNat : Int) (m.toNat : Int) = ((b ^^^ m).toNat : Int) := by
  rw [u8_xor_nat _ _ b.toNat_lt m.toNat_lt, UInt8.toNat_xor]

def maskedL (pad : List UInt8) (m : UInt8) (k : Nat) : List UInt8 := (pad.take k).map (· ^^^ m) ++ pad.drop k
theorem maskedL_length (pad : List UInt8) (m : UInt8) (k : Nat) (h : k ≤ pad.length) : (maskedL pad m k).length = pad.length := by simp [maskedL]; omega
theorem maskedL_at (pad : List UInt8) (m : UInt8) (k : Nat) (h : k < pad.length) : (maskedL pad m k)[k]? = some pad[k] := by
  unfold maskedL
  rw [List.getElem?_append_right (by simp; omega)]
  simp []
  rw [Nat.min_eq_left (by omega)]
  simp
theorem maskedL_set (pad : List UInt8) (m : UInt8) (k : Nat) (h : k < pad.length) : (maskedL pad m k).set k (pad[k] ^^^ m) = maskedL pad m (k + 1) := by
  unfold maskedL
  have e1 : ((pad.take k).map (· ^^^ m)).length = k := by simp; omega
  rw [List.set_append_right _ _ (by omega), e1, Nat.sub_self, List.drop_eq_getElem_cons h, List.set_cons_zero, List.take_succ_eq_append_getElem h, List.map_append]
  simp

set_option maxHeartbeats 1000000 in
theorem masked_any (pv : Value) (pad : List UInt8) (m : UInt8) (w : World) (hK : Ktab w) (hp : pad.length = 64) (hv : Hid (pv = .agg (pad.map bv).toArray)) :
    Calls Tryd.prog 62 #[pv, .int .u8 (m.toNat : Int)] w fun e w' => ∃ v, e = .returned v ∧ Hid (SumV v (pad.map (· ^^^ m)) ∧ Below w.heap.size w w') := by
  have h0 := hK.1
  have HK := Lib.hid hK
  have HP := Lib.hid hp
  clear hK hp
  have hmx := byte_xor
  go_enter Tryd.func62, Tryd.ntmps62
  go_wp2_with (first
    | (refine wl_box rfl 95 (.tmp 0) rfl (pad.map bv) hv.out ?_
       intro w1 HA1 HB1 HZ1)
    | (refine wl_alloc rfl 99 rfl _ _ info48 ?_
       intro w2 HA2 HB2 HZ2))
  have hs1 : w.heap.size < w1.heap.size := by rw [HZ1.out]; omega
  have hs2 : w1.heap.size < w2.heap.size := by rw [HZ2.out]; omega
  have HBW2 := Lib.hid (HB1.out.trans (HB2.out.mono (by omega)))
  have HG0 := Lib.hid (HA1.out.below HB2.out (by omega))
  obtain ⟨Z, HZZ⟩ : ∃ Z, Shut (Z = List.replicate 8 (Value.int .u32 0) ++ List.replicate 64 (Value.int .u8 0) ++ [Value.int .i64 0, Value.int .u64 0]) := ⟨_, ⟨rfl⟩⟩
  have HA2' : Hid (Row w2 w1.heap.size 99 Z) := Lib.hid (by rw [HZZ.out]; exact HA2.out)
  generalize hgr : w1.heap.size = gr at *
  clear HA1 HB1 HZ1 HB2 HZ2 HA2 hgr
  go_loopw [7] (fun i W => ∃ k : Nat, k ≤ 64 ∧ i = .int .i64 k ∧ Shut (Row W w.heap.size 95 ((maskedL pad m k).map bv) ∧ Row W gr 99 Z ∧ Below w.heap.size w W)) (fun i _ => 64 - (intOf i).toNat)
  case atStart => exact ⟨0, Nat.zero_le _, rfl, ⟨by simpa [maskedL] using HG0.out, HA2'.out, HBW2.out⟩⟩
  case round =>
    obtain ⟨k, hk, rfl, HI⟩ := hrel
    by_cases hlt : k < 64
    · have hk2 : k < pad.length := by rw [HP.out]; exact hlt
      obtain ⟨b, HBB⟩ : ∃ b, Shut (b = pad[k]) := ⟨_, ⟨rfl⟩⟩
      have cb : wr.cell? ⟨w.heap.size, k, none⟩ = some (.int .u8 (b.toNat : Int)) := by
        rw [HI.out.1.cell, List.getElem?_map, maskedL_at _ _ _ hk2, HBB.out]
        rfl
      have fb : wr.frozen? ⟨w.heap.size, k, none⟩ = false := HI.out.1.frozen k
      have hkk : decide ((k : Int) < 64) = true := by simp; omega
      go_wp2_with fail
      refine ⟨⟨k + 1, by omega, by go_num, ⟨?_, ?_, ?_⟩⟩, by simp [intOf]; omega⟩
      · have h1 := HI.out.1.set k (bv (b ^^^ m))
        rw [← List.map_set, HBB.out, maskedL_set _ _ _ hk2, ← HBB.out] at h1
        exact h1
      · exact HI.out.2.1.setOther _ (by show gr ≠ w.heap.size; omega) _
      · exact HI.out.2.2.setCell (Nat.le_refl _) _
    · have HI2 : Shut (Row wr w.heap.size 95 ((pad.map (· ^^^ m)).map bv)) := ⟨by
        have h1 := HI.out.1
        have h2 : maskedL pad m k = pad.map (· ^^^ m) := by
          unfold maskedL
          rw [List.take_of_length_le (by rw [HP.out]; omega), List.drop_eq_nil_of_le (by rw [HP.out]; omega), List.append_nil]
        rwa [h2] at h1⟩
      go_wp2_with fail
      with_reducible refine (newSum_any wr).mono ?_
      rintro e w3 ⟨v, rfl, HV⟩
      have hsr : w.heap.size ≤ wr.heap.size := HI.out.2.2.size
      have hgr : gr < wr.heap.size := HI.out.2.1.lt
      have hwr : w.heap.size < wr.heap.size := HI2.out.lt
      have HB3 := Lib.hid (HI.out.2.2.trans (HV.out.2.mono hsr))
      have HP3 : Shut (Row w3 w.heap.size 95 ((pad.map (· ^^^ m)).map bv)) := ⟨HI2.out.below HV.out.2 hwr⟩
      have HZ3 : Shut (Row w3 gr 99 Z) := ⟨HI.out.2.1.below HV.out.2 hgr⟩
      obtain ⟨L, HL⟩ : ∃ L, Shut (L = sumCells H0 zeros64 0 0) := ⟨_, ⟨rfl⟩⟩
      have HZL : Shut (L.length = 74 ∧ (∀ v ∈ L, v.oneCell' = true) ∧ (Tryd.prog.info? 99).map (·.size) = some L.length) := ⟨by
        have h1 := len48 H0 0 0
        rw [HL.out]
        exact ⟨h1, sum_one _ _ _ _, by rw [h1]; exact info_size info48⟩⟩
      have HV1 : Hid (v = .agg L.toArray) := Lib.hid (by rw [HL.out]; exact HV.out.1)
      have hs3 : wr.heap.size ≤ w3.heap.size := HV.out.2.size
      obtain ⟨S, HS⟩ : ∃ S, Shut (S = pad.map (· ^^^ m)) := ⟨_, ⟨rfl⟩⟩
      have HSL : Hid (S.length = 64) := Lib.hid (by rw [HS.out, List.length_map, HP.out])
      rw [← HS.out] at HP3
      clear HI HI2 HV HG0 HA2' HBW2
      have hsl := fun w' : World => run_all w' 95 64 under45 w.heap.size 0
      go_wp2_with (first
        | (refine wl_alloc rfl 99 rfl _ _ info48 ?_
           intro w4 HA4 HB4 HZ4)
        | (refine wl_store rfl 99 (.tmp 6) (.tmp 17) rfl w3.heap.size _ L rfl HV1.out rfl 99 _ HA4.out HZL.out.2.2 (by rw [HZL.out.1]; rfl) HZL.out.2.1 ?_
           intro w5 HR5 HS5 HZ5))
      have hz4 : w3.heap.size < w4.heap.size := by rw [HZ4.out]; omega
      have HB4' := Lib.hid (HB3.out.trans (HB4.out.mono HB3.out.size))
      have HB5 := Lib.hid (HB4'.out.trans (HS5.out.below (by omega) (by omega)))
      have HP5 : Shut (Row w5 w.heap.size 95 (S.map bv)) := ⟨HS5.out.row (HP3.out.below HB4.out (by omega)) (by omega)⟩
      have HZ5' : Shut (Row w5 gr 99 Z) := ⟨HS5.out.row (HZ3.out.below HB4.out (by omega)) (by omega)⟩
      have HSM : Shut (SumT w5 w3.heap.size [] 0) := ⟨sumT_nil (by rw [← HL.out]; exact HR5.out)⟩
      have hz5 : w4.heap.size ≤ w5.heap.size := by rw [HZ5.out]; exact Nat.le_refl _
      generalize hgs : w3.heap.size = gs at *
      clear hsl HR5 HA4 HB4 HZ4 HS5 HZ5 hgs HP3 HZ3 HB3
      have HSC : Shut (Src w5 gs (some ⟨w.heap.size, 0, none⟩) S) := ⟨⟨HP5.out.rd _ (by omega), fun _ ad had => by injection had with had; rw [← had]; show w.heap.size ≠ gs; omega⟩⟩
      with_reducible refine (add_any gs [] 0 64 64 _ S w5 (HK.out.below h0 HB5.out) (by omega) HSL.out (Nat.le_refl _) (by decide) (by decide) HSC.out HSM.out).mono ?_
      rintro e w6 ⟨rfl, HA6⟩
      have HB6 := Lib.hid (HB5.out.trans (HA6.out.2.below (by omega) HB5.out.size))
      have HZ6 : Shut (Row w6 gr 99 Z) := ⟨HA6.out.2.row HZ5'.out (by omega)⟩
      obtain ⟨blk, hb1, hb2, hb3⟩ := HA6.out.1
      rw [List.nil_append, Nat.zero_add] at hb3
      rw [List.nil_append] at hb2
      obtain ⟨M, HM⟩ : ∃ M, Shut (M = sumCells (regsOf S) blk (S.length % 64) 64) := ⟨_, ⟨rfl⟩⟩
      rw [← HM.out] at hb3
      have HLM : Shut ((Tryd.prog.info? 99).map (·.size) = some M.length ∧ Z.length = M.length ∧ ∀ v ∈ M, v.oneCell' = true) := ⟨by
        have h1 : M.length = 74 := by rw [HM.out, sumCells_length _ _ _ _ hb1]
        exact ⟨by rw [h1]; exact info_size info48, by rw [h1, HZZ.out]; rfl, by rw [HM.out]; exact sum_one _ _ _ _⟩⟩
      have HR6 := Lib.hid hb3
      have HBK := Lib.hid (And.intro hb1 hb2)
      clear hb1 hb2 hb3 HA6 HSC HSM HP5 HZ5'
      have hu48 := under48
      obtain ⟨fs, hfs⟩ := hu48
      have HFS := Lib.hid hfs
      clear hfs
      go_wp2_with (first
        | (refine wl_load rfl 99 (.tmp 6) rfl gs rfl 99 _ _ HR6.out HFS.out rfl HLM.out.1 ?_
           intro vp HVP)
        | (refine wl_store rfl 99 (.tmp 4) (.tmp 20) rfl gr _ M rfl HVP.out rfl 99 _ HZ6.out HLM.out.1 HLM.out.2.1 HLM.out.2.2 ?_
           intro w8 HR8 HS8 HZ8))
      refine bodyPost_ret (v := .agg M.toArray) (results_cell_row Tryd.results62 _ w8 gr 99 _ (0, 0) _ rfl HR8.out HFS.out rfl (by simpa using HLM.out.1)) rfl ?_
      have hM : SumV (.agg M.toArray) (pad.map (· ^^^ m)) := by
        rw [← HS.out]
        exact ⟨blk, HBK.out.1, HBK.out.2, by rw [HM.out, HSL.out]⟩
      exact ⟨.agg M.toArray, rfl, Lib.hid (And.intro hM (HB6.out.trans (HS8.out.below (by omega) HB6.out.size)))⟩
theorem sumV_cells {v : Value} {S : List UInt8} (h : SumV v S) : ∃ M, v = .agg M.toArray ∧ M.length = 74 ∧ (∀ v ∈ M, v.oneCell' = true) ∧ ∀ w g, Row w g 99 M → SumT w g S S.length := by
  obtain ⟨blk, h1, h2, h3⟩ := h
  exact ⟨_, h3, sumCells_length _ _ _ _ h1, sum_one _ _ _ _, fun w g hr => ⟨blk, h1, h2, hr⟩⟩
theorem zero48_length : (List.replicate 8 (Value.int .u32 0) ++ List.replicate 64 (Value.int .u8 0) ++ [Value.int .i64 0, Value.int .u64 0]).length = 74 := rfl

/-- What a value of 32 bytes needs to be stored. -/
theorem dig_facts (S : List UInt8) : ∃ D, Shut (D = (digest S).map bv) ∧ Shut ((Tryd.prog.info? 85).map (·.size) = some D.length ∧ (List.replicate 32 (Value.int .u8 0)).length = D.length ∧ D.length = 32 ∧ ∀ v ∈ D, v.oneCell' = true) := by
  refine ⟨_, ⟨rfl⟩, ⟨?_⟩⟩
  have h1 := digest_len S
  exact ⟨by rw [h1]; exact info_size info27, by rw [h1]; exact List.length_replicate, h1, bytes_one _⟩

theorem masked_36 (pv : Value) (pad : List UInt8) (w : World) (hK : Ktab w) (hp : pad.length = 64) (hv : Hid (pv = .agg (pad.map bv).toArray)) :
    Calls Tryd.prog 62 #[pv, .int .u8 54] w fun e w' => ∃ v, e = .returned v ∧ Hid (SumV v (pad.map (· ^^^ 0x36)) ∧ Below w.heap.size w w') := masked_any pv pad 0x36 w hK hp hv
theorem masked_5c (pv : Value) (pad : List UInt8) (w : World) (hK : Ktab w) (hp : pad.length = 64) (hv : Hid (pv = .agg (pad.map bv).toArray)) :
    Calls Tryd.prog 62 #[pv, .int .u8 92] w fun e w' => ∃ v, e = .returned v ∧ Hid (SumV v (pad.map (· ^^^ 0x5c)) ∧ Below w.heap.size w w') := masked_any pv pad 0x5c w hK hp hv

set_option maxHeartbeats 2000000 in
theorem keyed_any (n c m d : Nat) (A B : Option Addr) (key : List UInt8) (ps : List Part) (w : World) (hK : Ktab w) (hn : key.length = n) (hc : n ≤ c) (hcm : c ≤ 9223372036854775807) (hkT : n < 1152921504606846976) (hr : Rd w w.heap.size A (key.map bv))
    (hm : ps.length = m) (hmax : m ≤ 9223372036854775807) (hT : (flat ps).length < 1152921504606846000) (hp : Parts w w.heap.size B ps) :
    Calls Tryd.prog 50 #[.slice A n c, .slice B m d] w fun e w' => ∃ v, e = .returned v ∧ Hid (v = .agg ((keyed key (flat ps)).map bv).toArray ∧ Below w.heap.size w w') := by
  have h0 := hK.1
  have HK := Lib.hid hK
  have HN := Lib.hid hn
  have HR := Lib.hid hr
  have HM := Lib.hid hm
  have HT := Lib.hid hT
  have HP := Lib.hid hp
  clear hK hn hr hm hT hp
  obtain ⟨P, HPP⟩ : ∃ P, Shut (P = padK key) := ⟨_, ⟨rfl⟩⟩
  have HPL : Hid (P.length = 64) := Lib.hid (by rw [HPP.out]; exact padK_length key)
  have HLP : Shut ((Tryd.prog.info? 95).map (·.size) = some (P.map bv).length ∧ (List.replicate 64 (Value.int .u8 0)).length = (P.map bv).length ∧ ∀ v ∈ P.map bv, v.oneCell' = true) := ⟨by
    rw [List.length_map, HPL.out]
    exact ⟨info_size info45, rfl, bytes_one _⟩⟩
  go_enter Tryd.func50, Tryd.ntmps50
  go_wp2_with (first
    | (refine wl_alloc rfl 85 rfl _ _ info27 ?_
       intro w1 HA1 HB1 HZ1))
  have hs1 : w.heap.size < w1.heap.size := by rw [HZ1.out]; omega
  with_reducible refine (padKey_any n c A key w1 (HK.out.below h0 HB1.out) HN.out hc hcm hkT ((HR.out.below HB1.out).more (Nat.le_of_lt hs1))).mono ?_
  rintro e w2 ⟨vp, rfl, HV2⟩
  have HVP : Hid (vp = .agg (P.map bv).toArray) := Lib.hid (by rw [HPP.out]; exact HV2.out.1)
  have HB2 := Lib.hid (HB1.out.trans (HV2.out.2.mono (Nat.le_of_lt hs1)))
  have HG2 := Lib.hid (HA1.out.below HV2.out.2 hs1)
  have hs2 : w.heap.size < w2.heap.size := HG2.out.lt
  clear HA1 HB1 HZ1 HV2
  go_wp2_with (first
    | (refine wl_alloc rfl 95 rfl _ _ info45 ?_
       intro w3 HA3 HB3 HZ3)
    | (refine wl_store rfl 95 (.tmp 5) (.tmp 10) rfl w2.heap.size _ (P.map bv) rfl HVP.out rfl 95 _ HA3.out HLP.out.1 HLP.out.2.1 HLP.out.2.2 ?_
       intro w4 HR4 HS4 HZ4)
    | (refine wl_load rfl 95 (.tmp 5) rfl w2.heap.size rfl 95 _ _ HR4.out under45 rfl HLP.out.1 ?_
       intro vq HVQ))
  have hz3 : w2.heap.size < w3.heap.size := by rw [HZ3.out]; omega
  have hz4 : w3.heap.size ≤ w4.heap.size := by rw [HZ4.out]; exact Nat.le_refl _
  have HB3' := Lib.hid (HB2.out.trans (HB3.out.mono HB2.out.size))
  have HB4 := Lib.hid (HB3'.out.trans (HS4.out.below (by omega) (by omega)))
  have HG4 := Lib.hid (HS4.out.row (HG2.out.below HB3.out hs2) (by omega))
  generalize hgp : w2.heap.size = gp at *
  clear HA3 HB3 HZ3 HS4 HZ4 HB3' HB2 HG2 hgp
  with_reducible refine (masked_36 vq P w4 (HK.out.below h0 HB4.out) HPL.out HVQ).mono ?_
  rintro e w5 ⟨vs, rfl, HV5⟩
  obtain ⟨M1, hm1, hm2, hm3, hm4⟩ := sumV_cells HV5.out.1
  have HM1 : Shut (vs = .agg M1.toArray ∧ M1.length = 74 ∧ (∀ v ∈ M1, v.oneCell' = true) ∧ (∀ w g, Row w g 99 M1 → SumT w g (P.map (· ^^^ 0x36)) (P.map (· ^^^ 0x36)).length) ∧ (Tryd.prog.info? 99).map (·.size) = some M1.length ∧ (List.replicate 8 (Value.int .u32 0) ++ List.replicate 64 (Value.int .u8 0) ++ [Value.int .i64 0, Value.int .u64 0]).length = M1.length) :=
    ⟨hm1, hm2, hm3, hm4, by rw [hm2]; exact info_size info48, by rw [hm2]; exact zero48_length⟩
  clear hm1 hm2 hm3 hm4
  have hgp4 : gp < w4.heap.size := HR4.out.lt
  have HB5 := Lib.hid (HB4.out.trans (HV5.out.2.mono HB4.out.size))
  have HG5 := Lib.hid (HG4.out.below HV5.out.2 HG4.out.lt)
  have HR5 := Lib.hid (HR4.out.below HV5.out.2 hgp4)
  have hgp5 : gp < w5.heap.size := HR5.out.lt
  clear HV5 HB4 HG4 HR4 HVP
  go_wp2_with (first
    | (refine wl_alloc rfl 99 rfl _ _ info48 ?_
       intro w6 HA6 HB6 HZ6)
    | (refine wl_store rfl 99 (.tmp 6) (.tmp 12) rfl w5.heap.size _ M1 rfl HM1.out.1 rfl 99 _ HA6.out HM1.out.2.2.2.2.1 HM1.out.2.2.2.2.2 HM1.out.2.2.1 ?_
       intro w7 HR7 HS7 HZ7))
  have hz6 : w5.heap.size < w6.heap.size := by rw [HZ6.out]; omega
  have hz7 : w6.heap.size ≤ w7.heap.size := by rw [HZ7.out]; exact Nat.le_refl _
  have HB6' := Lib.hid (HB5.out.trans (HB6.out.mono HB5.out.size))
  have HB7 := Lib.hid (HB6'.out.trans (HS7.out.below (by omega) (by omega)))
  have HG7 := Lib.hid (HS7.out.row (HG5.out.below HB6.out (by omega)) (by omega))
  have HP7 := Lib.hid (HS7.out.row (HR5.out.below HB6.out (by omega)) (by omega))
  have HSM : Shut (SumT w7 w5.heap.size (P.map (· ^^^ 0x36)) (P.map (· ^^^ 0x36)).length) := ⟨HM1.out.2.2.2.1 _ _ HR7.out⟩
  obtain ⟨S1, HS1⟩ : ∃ S1, Shut (S1 = P.map (· ^^^ 0x36)) := ⟨_, ⟨rfl⟩⟩
  have HL1 : Hid (S1.length = 64) := Lib.hid (by rw [HS1.out, List.length_map, HPL.out])
  rw [← HS1.out] at HSM
  generalize hgi : w5.heap.size = gi at *
  clear HA6 HB6 HZ6 HR7 HS7 HZ7 HB6' HB5 HG5 HR5 HM1 hgi
  with_reducible refine (addAll_any gi w.heap.size S1 S1.length m d B ps w7 (HK.out.below h0 HB7.out) (by omega) (by omega) HB7.out.size HM.out hmax (by have := HT.out; have := HL1.out; omega) (HP.out.below HB7.out) HSM.out).mono ?_
  rintro e w8 ⟨rfl, HA8⟩
  have HS8 : Shut (SumT w8 gi (S1 ++ flat ps) (S1 ++ flat ps).length) := ⟨by have h1 := HA8.out.1; rwa [← List.length_append] at h1⟩
  have HG8 := Lib.hid (HA8.out.2.row HG7.out (by omega))
  have HP8 := Lib.hid (HA8.out.2.row HP7.out (by omega))
  have HB8 := Lib.hid (HB7.out.trans (HA8.out.2.below (by omega) HB7.out.size))
  clear HA8 HG7 HP7 HB7 HSM
  go_wp2_with fail
  with_reducible refine (finish_any gi (S1 ++ flat ps) w8 (HK.out.below h0 HB8.out) (by omega) (by rw [List.length_append, HL1.out]; have := HT.out; omega) HS8.out).mono ?_
  rintro e w9 ⟨vd, rfl, HA9⟩
  obtain ⟨D, HD, HLD⟩ := dig_facts (S1 ++ flat ps)
  have HVD : Hid (vd = .agg D.toArray) := Lib.hid (by rw [HD.out]; exact HA9.out.1)
  have HG9 := Lib.hid (HA9.out.2.row HG8.out (by omega))
  have HP9 := Lib.hid (HA9.out.2.row HP8.out (by omega))
  have HB9 := Lib.hid (HB8.out.trans (HA9.out.2.below (by omega) HB8.out.size))
  clear HA9 HG8 HP8 HB8 HS8
  have hgp9 : gp < w9.heap.size := HP9.out.lt
  go_wp2_with (first
    | (refine wl_alloc rfl 85 rfl _ _ info27 ?_
       intro wa HAa HBa HZa)
    | (refine wl_store rfl 85 (.tmp 7) (.tmp 15) rfl w9.heap.size _ D rfl HVD.out rfl 85 _ HAa.out HLD.out.1 HLD.out.2.1 HLD.out.2.2.2 ?_
       intro wb HRb HSb HZb
       have hza : w9.heap.size < wa.heap.size := by rw [HZa.out]; omega
       have hzb : wa.heap.size ≤ wb.heap.size := by rw [HZb.out]; exact Nat.le_refl _
       have HBa' := Lib.hid (HB9.out.trans (HBa.out.mono HB9.out.size))
       have HBb := Lib.hid (HBa'.out.trans (HSb.out.below (by omega) (by omega)))
       have HGb := Lib.hid (HSb.out.row (HG9.out.below HBa.out (by omega)) (by omega))
       have HPb := Lib.hid (HSb.out.row (HP9.out.below HBa.out (by omega)) (by omega)))
    | (refine wl_load rfl 95 (.tmp 5) rfl gp rfl 95 _ _ HPb.out under45 rfl HLP.out.1 ?_
       intro vq2 HVQ2))
  generalize hgd : w9.heap.size = gd at *
  clear HAa HBa HZa HSb HZb HBa' HB9 HG9 HP9 hgd
  with_reducible refine (masked_5c vq2 P wb (HK.out.below h0 HBb.out) HPL.out HVQ2).mono ?_
  rintro e wc ⟨vs2, rfl, HVc⟩
  obtain ⟨M2, hm1, hm2, hm3, hm4⟩ := sumV_cells HVc.out.1
  have HM2 : Shut (vs2 = .agg M2.toArray ∧ M2.length = 74 ∧ (∀ v ∈ M2, v.oneCell' = true) ∧ (∀ w g, Row w g 99 M2 → SumT w g (P.map (· ^^^ 0x5c)) (P.map (· ^^^ 0x5c)).length) ∧ (Tryd.prog.info? 99).map (·.size) = some M2.length ∧ (List.replicate 8 (Value.int .u32 0) ++ List.replicate 64 (Value.int .u8 0) ++ [Value.int .i64 0, Value.int .u64 0]).length = M2.length) :=
    ⟨hm1, hm2, hm3, hm4, by rw [hm2]; exact info_size info48, by rw [hm2]; exact zero48_length⟩
  clear hm1 hm2 hm3 hm4
  have HBc := Lib.hid (HBb.out.trans (HVc.out.2.mono HBb.out.size))
  have HGc := Lib.hid (HGb.out.below HVc.out.2 HGb.out.lt)
  have HDc := Lib.hid (HRb.out.below HVc.out.2 HRb.out.lt)
  have hgdc : gd < wc.heap.size := HDc.out.lt
  have hwc : w.heap.size < wc.heap.size := HGc.out.lt
  clear HVc HBb HGb HRb HPb
  have hsl := fun w' : World => run_all w' 85 32 under27 gd 0
  go_wp2_with (first
    | (refine wl_alloc rfl 99 rfl _ _ info48 ?_
       intro we HAe HBe HZe)
    | (refine wl_store rfl 99 (.tmp 8) (.tmp 17) rfl wc.heap.size _ M2 rfl HM2.out.1 rfl 99 _ HAe.out HM2.out.2.2.2.2.1 HM2.out.2.2.2.2.2 HM2.out.2.2.1 ?_
       intro wf HRf HSf HZf))
  clear hsl
  have hze : wc.heap.size < we.heap.size := by rw [HZe.out]; omega
  have hzf : we.heap.size ≤ wf.heap.size := by rw [HZf.out]; exact Nat.le_refl _
  have HBe' := Lib.hid (HBc.out.trans (HBe.out.mono HBc.out.size))
  have HBf := Lib.hid (HBe'.out.trans (HSf.out.below (by omega) (by omega)))
  have HGf := Lib.hid (HSf.out.row (HGc.out.below HBe.out (by omega)) (by omega))
  have HDf := Lib.hid (HSf.out.row (HDc.out.below HBe.out (by omega)) (by omega))
  have HSO : Shut (SumT wf wc.heap.size (P.map (· ^^^ 0x5c)) (P.map (· ^^^ 0x5c)).length) := ⟨HM2.out.2.2.2.1 _ _ HRf.out⟩
  obtain ⟨S2, HS2⟩ : ∃ S2, Shut (S2 = P.map (· ^^^ 0x5c)) := ⟨_, ⟨rfl⟩⟩
  have HL2 : Hid (S2.length = 64) := Lib.hid (by rw [HS2.out, List.length_map, HPL.out])
  rw [← HS2.out] at HSO
  generalize hgo : wc.heap.size = go at *
  clear HAe HBe HZe HRf HSf HZf HBe' HBc HGc HDc HM2 hgo
  have HDL : Hid ((digest (S1 ++ flat ps)).length = 32) := Lib.hid (digest_length _)
  have HSC : Shut (Src wf go (some ⟨gd, 0, none⟩) (digest (S1 ++ flat ps))) := ⟨⟨by rw [← HD.out]; exact HDf.out.rd _ (by omega), fun _ ad had => by injection had with had; rw [← had]; show gd ≠ go; omega⟩⟩
  with_reducible refine (add_any go S2 S2.length 32 32 _ (digest (S1 ++ flat ps)) wf (HK.out.below h0 HBf.out) (by omega) HDL.out (Nat.le_refl _) (by decide) (by rw [HL2.out]; decide) HSC.out HSO.out).mono ?_
  rintro e wg ⟨rfl, HAg⟩
  have HSg : Shut (SumT wg go (S2 ++ digest (S1 ++ flat ps)) (S2 ++ digest (S1 ++ flat ps)).length) := ⟨by have h1 := HAg.out.1; rw [List.length_append, HDL.out]; exact h1⟩
  have HGg := Lib.hid (HAg.out.2.row HGf.out (by omega))
  have HBg := Lib.hid (HBf.out.trans (HAg.out.2.below (by omega) HBf.out.size))
  clear HAg HGf HBf HSO HSC HDf
  go_wp2_with fail
  with_reducible refine (finish_any go _ wg (HK.out.below h0 HBg.out) (by omega) (by rw [List.length_append, HL2.out, HDL.out]; decide) HSg.out).mono ?_
  rintro e wh ⟨vr, rfl, HAh⟩
  obtain ⟨E, HE, HLE⟩ := dig_facts (S2 ++ digest (S1 ++ flat ps))
  have HVE : Hid (vr = .agg E.toArray) := Lib.hid (by rw [HE.out]; exact HAh.out.1)
  have HGh := Lib.hid (HAh.out.2.row HGg.out (by omega))
  have HBh := Lib.hid (HBg.out.trans (HAh.out.2.below (by omega) HBg.out.size))
  clear HAh HGg HBg HSg
  go_wp2_with (first
    | (refine wl_store rfl 85 (.tmp 4) (.tmp 20) rfl w.heap.size _ E rfl HVE.out rfl 85 _ HGh.out HLE.out.1 HLE.out.2.1 HLE.out.2.2.2 ?_
       intro wi HRi HSi HZi))
  refine bodyPost_ret (v := .agg E.toArray) (results_cell_row Tryd.results50 _ wi w.heap.size 85 _ (0, 0) _ rfl HRi.out under27 rfl (by simpa using HLE.out.1)) rfl ?_
  have hE : Value.agg E.toArray = .agg ((keyed key (flat ps)).map bv).toArray := by
    rw [HE.out, HS1.out, HS2.out, HPP.out]
    rfl
  exact ⟨.agg E.toArray, rfl, Lib.hid (And.intro hE (HBh.out.trans (HSi.out.below (Nat.le_refl _) HBh.out.size)))⟩
end Go.Proofs.YtchnbknbccpmcaaDoor.H
