/- A block of an operation (jackfieldlaw04.block); a copy of bytes (jackfieldnum.Bytes). -/
import Derived.Test.YtadhgdjgpanddaaDoorRefr
namespace Go.Proofs.YtadhgdjgpanddaaDoor
open Go.RowKit

def fillA (b : UInt8) (k : Nat) : List UInt8 := List.replicate k b ++ List.replicate (64 - k) 0
theorem fillA_length (b : UInt8) (k : Nat) (h : k ≤ 64) : (fillA b k).length = 64 := by simp [fillA]; omega
theorem fillA_next (b : UInt8) (k : Nat) (h : k < 64) : (fillA b k).set k b = fillA b (k + 1) := by
  unfold fillA
  rw [List.set_append_right _ _ (by simp), List.length_replicate, Nat.sub_self, show 64 - k = (64 - (k + 1)) + 1 by omega, List.replicate_succ, List.set_cons_zero, List.replicate_succ', List.append_assoc]
  rfl
/-- The bytes of an operation's block. -/
def opBlock (c b : UInt8) : List UInt8 := c :: List.replicate 63 b
theorem opBlock_length (c b : UInt8) : (opBlock c b).length = 64 := by simp [opBlock]
theorem fillA_first (c b : UInt8) : (fillA b 64).set 0 c = opBlock c b := rfl
structure BlkAt (w W : World) (v2 v3 gb : Nat) (n : Int) (b : UInt8) (k : Nat) : Prop where
  op2 : W.cell? ⟨gb, 2, none⟩ = some (.int .i64 n)
  op3 : W.cell? ⟨gb, 3, none⟩ = some (.int .u8 (b.toNat : Int))
  res : Row W v2 47 (List.replicate 64 (.int .u8 0))
  row : Row W v3 47 ((fillA b k).map bv)
  lo : w.heap.size ≤ v2 ∧ w.heap.size ≤ v3 ∧ v2 ≠ v3 ∧ gb ≠ v2 ∧ gb ≠ v3
  below : Below w.heap.size w W
set_option maxHeartbeats 1000000 in
theorem block_any (k a n : Int) (b c : UInt8) (w : World) (hc : (c.toNat : Int) = IntKind.u8.wrap n) :
    Calls Tryd.prog 17 #[.agg #[.int .i64 k, .int .i64 a, .int .i64 n, .int .u8 (b.toNat : Int)]] w fun x w' => ∃ A, x = .returned (.agg A) ∧ Hid (A = ((opBlock c b).map bv).toArray ∧ Below w.heap.size w w') := by
  have HC := Lib.hid hc
  clear hc
  have HZL : Hid (zeros64.length = 64) := Lib.hid rfl
  have HZA : Hid (#[.int .u8 0, .int .u8 0, .int .u8 0, .int .u8 0, .int .u8 0, .int .u8 0, .int .u8 0, .int .u8 0, .int .u8 0, .int .u8 0, .int .u8 0, .int .u8 0, .int .u8 0, .int .u8 0, .int .u8 0, .int .u8 0, .int .u8 0, .int .u8 0, .int .u8 0, .int .u8 0, .int .u8 0, .int .u8 0, .int .u8 0, .int .u8 0, .int .u8 0, .int .u8 0, .int .u8 0, .int .u8 0, .int .u8 0, .int .u8 0, .int .u8 0, .int .u8 0, .int .u8 0, .int .u8 0, .int .u8 0, .int .u8 0, .int .u8 0, .int .u8 0, .int .u8 0, .int .u8 0, .int .u8 0, .int .u8 0, .int .u8 0, .int .u8 0, .int .u8 0, .int .u8 0, .int .u8 0, .int .u8 0, .int .u8 0, .int .u8 0, .int .u8 0, .int .u8 0, .int .u8 0, .int .u8 0, .int .u8 0, .int .u8 0, .int .u8 0, .int .u8 0, .int .u8 0, .int .u8 0, .int .u8 0, .int .u8 0, .int .u8 0, .int .u8 0] = (zeros64.map bv).toArray) := Lib.hid zeros_lit2
  have HB0 : Hid (Below w.heap.size w (w.alloc (.cells #[.int .i64 k, .int .i64 a, .int .i64 n, .int .u8 (b.toNat : Int)] 43))) := Lib.hid ((Below.refl _ _).alloc (Nat.le_refl _) _)
  have HR0 : Hid (Row (w.alloc (.cells #[.int .i64 k, .int .i64 a, .int .i64 n, .int .u8 (b.toNat : Int)] 43)) w.heap.size 43 [.int .i64 k, .int .i64 a, .int .i64 n, .int .u8 (b.toNat : Int)]) := Lib.hid (Row.new w _ 43)
  have HZ0 : Hid ((w.alloc (.cells #[.int .i64 k, .int .i64 a, .int .i64 n, .int .u8 (b.toNat : Int)] 43)).heap.size = w.heap.size + 1) := Lib.hid (by simp)
  go_enter Tryd.func17, Tryd.ntmps17
  go_wp2_with (first
    | (refine wl_alloc rfl 47 rfl 2 rfl _ _ info47 ?_
       intro w1 H1)
    | (refine wl_var rfl rfl rfl 3 rfl rfl (.tmp 5) rfl _ zeros64 HZL.out HZA.out rfl rfl ?_
       intro w2 H2))
  have HK0 : Hid (BlkAt w w2 (w.heap.size + 1) w1.heap.size w.heap.size n b 0) := Lib.hid (by
    have hz := HZ0.out
    have h1 := H1.out
    rw [hz] at h1
    have hb1 : Below w.heap.size w w1 := HB0.out.trans (h1.2.1.mono (by omega))
    have hr0 : Row w2 w.heap.size 43 [.int .i64 k, .int .i64 a, .int .i64 n, .int .u8 (b.toNat : Int)] := (HR0.out.below h1.2.1 (by omega)).below H2.out.below (by omega)
    exact ⟨hr0.cell 2, hr0.cell 3, h1.1.below H2.out.below (by omega), H2.out.row, by omega, hb1.trans (H2.out.below.mono (by omega))⟩)
  generalize hv2 : w.heap.size + 1 = v2 at *
  generalize hv3 : w1.heap.size = v3 at *
  clear hv2 hv3 H1 H2 HB0 HR0 HZ0
  go_loopw [6] (fun i W => ∃ j : Nat, j ≤ 64 ∧ i = .int .i64 j ∧ Hid (BlkAt w W v2 v3 w.heap.size n b j)) (fun i _ => 64 - (intOf i).toNat)
  case atStart => exact ⟨0, by omega, rfl, HK0⟩
  case round =>
    clear HK0
    obtain ⟨j, hj, rfl, HK⟩ := hrel
    by_cases hlt : j < 64
    · have hjI : (j : Int) < 64 := by omega
      have c3 := HK.out.op3
      have cw : wr.cell? ⟨v3, j, none⟩ = some (.int .u8 0) := by
        rw [HK.out.row.cell]
        unfold fillA
        rw [List.map_append, List.getElem?_append_right (by simp), List.length_map, List.length_replicate, Nat.sub_self, List.getElem?_map, List.getElem?_replicate, if_pos (by omega)]
        rfl
      have fw := HK.out.row.frozen j
      go_wp2_with fail
      have HN : Hid (BlkAt w (wr.setCell ⟨v3, j, none⟩ (.int .u8 (b.toNat : Int))) v2 v3 w.heap.size n b (j + 1)) := Lib.hid (by
        have ht : Turn (fun k => k = v3) wr (wr.setCell ⟨v3, j, none⟩ (.int .u8 (b.toNat : Int))) := (Turn.refl (fun k => k = v3) wr).setCell ⟨v3, j, none⟩ (fun _ => rfl) _
        have lo := HK.out.lo
        have hkeep : ∀ x, x ≠ v3 → (wr.setCell ⟨v3, j, none⟩ (.int .u8 (b.toNat : Int))).heap[x]? = wr.heap[x]? := fun x hx => Below.heap_setCell _ _ _ _ hx
        refine ⟨(cell_block (p := ⟨w.heap.size, 2, none⟩) (hkeep _ lo.2.2.2.2)).trans HK.out.op2, (cell_block (p := ⟨w.heap.size, 3, none⟩) (hkeep _ lo.2.2.2.2)).trans HK.out.op3, ht.row HK.out.res lo.2.2.1, ?_, lo, HK.out.below.trans (ht.below (fun x hx => by omega) HK.out.below.size)⟩
        have h5 := HK.out.row.set j (.int .u8 (b.toNat : Int))
        have e : ((fillA b j).map bv).set j (.int .u8 (b.toNat : Int)) = (fillA b (j + 1)).map bv := by rw [← fillA_next b j hlt, List.map_set]; rfl
        rwa [e] at h5)
      exact ⟨⟨j + 1, by omega, by go_num, HN⟩, by simp [intOf]; omega⟩
    · obtain rfl : j = 64 := by omega
      have c2 := HK.out.op2
      have cw : wr.cell? ⟨v3, 0, none⟩ = some (.int .u8 (b.toNat : Int)) := HK.out.row.cell 0
      have fw := HK.out.row.frozen 0
      obtain ⟨L, HL⟩ : ∃ L, Shut (L = (opBlock c b).map bv) := ⟨_, ⟨rfl⟩⟩
      have HLL : Shut (L.length = 64 ∧ (∀ v ∈ L, v.oneCell' = true) ∧ (Tryd.prog.info? 47).map (·.size) = some L.length) := ⟨by
        have h1 : L.length = 64 := by rw [HL.out, List.length_map, opBlock_length]
        exact ⟨h1, by rw [HL.out]; exact bytes_one _, by rw [h1]; exact size47⟩⟩
      have HR : Hid (Row (wr.setCell ⟨v3, 0, none⟩ (.int .u8 (IntKind.u8.wrap n))) v3 47 L ∧ Row (wr.setCell ⟨v3, 0, none⟩ (.int .u8 (IntKind.u8.wrap n))) v2 47 (List.replicate 64 (.int .u8 0)) ∧ Below w.heap.size w (wr.setCell ⟨v3, 0, none⟩ (.int .u8 (IntKind.u8.wrap n)))) := Lib.hid (by
        have ht : Turn (fun k => k = v3) wr (wr.setCell ⟨v3, 0, none⟩ (.int .u8 (IntKind.u8.wrap n))) := (Turn.refl (fun k => k = v3) wr).setCell ⟨v3, 0, none⟩ (fun _ => rfl) _
        have lo := HK.out.lo
        refine ⟨?_, ht.row HK.out.res lo.2.2.1, HK.out.below.trans (ht.below (fun x hx => by omega) HK.out.below.size)⟩
        have h5 := HK.out.row.set 0 (.int .u8 (IntKind.u8.wrap n))
        have e : ((fillA b 64).map bv).set 0 (.int .u8 (IntKind.u8.wrap n)) = L := by rw [HL.out, ← fillA_first c b, List.map_set, ← HC.out]; rfl
        rwa [e] at h5)
      have HLO := Lib.hid HK.out.lo
      clear HK
      go_wp2_with (first
        | (refine wl_load rfl 47 (.tmp 3) rfl v3 0 rfl L _ HR.out.1.all under47 rfl HLL.out.2.2 ?_
           intro v8 HV8)
        | (refine wl_store rfl 47 (.tmp 2) (.tmp 18) rfl v2 0 _ L rfl rfl HV8.out 47 _ HR.out.2.1 HLL.out.2.2 (by rw [HLL.out.1]; simp) HLL.out.2.1 ?_
           intro w9 H9))
      refine bodyPost_ret (v := .agg L.toArray) (results_cell_row Tryd.results17 _ w9 v2 47 _ (0, 0) _ rfl (show w9.heap[v2]? = some (.cells L.toArray 47 (0, 0)) from ?_) under47 rfl (by simpa using HLL.out.2.2)) rfl ?_
      · have := H9.out.1
        have e : splice (List.replicate 64 (Value.int .u8 0)) 0 L = L := by simp [splice, HLL.out.1]
        rw [e] at this
        exact this
      · exact ⟨L.toArray, rfl, Lib.hid ⟨by rw [HL.out], HR.out.2.2.trans (H9.out.2.1.below (fun k hk => by have := HLO.out.1; omega) HR.out.2.2.size)⟩⟩
end Go.Proofs.YtadhgdjgpanddaaDoor
