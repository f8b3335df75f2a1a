/- What (*sum).spread answers: the 64 words of the block that the sum holds. -/
import Derived.Test.YtlmdafldggbiaaaDoorHLaws
import Derived.BigRegion
namespace Go.Proofs.YtlmdafldggbiaaaDoor.H
open Go.RowKit

/-- A fact that no comparison may look into. -/
structure Shut (p : Prop) : Prop where
  out : p

/-- The cells of a sum. -/
def sumCells (r : Regs) (blk : List UInt8) (held total : Nat) : List Value := r.list.map uv ++ blk.map bv ++ [.int .i64 (held : Int), .int .u64 (total : Int)]
theorem sumCells_length (r : Regs) (blk : List UInt8) (held total : Nat) (h : blk.length = 64) : (sumCells r blk held total).length = 74 := by simp [sumCells, list_length, h]
theorem sumCells_byte (r : Regs) (blk : List UInt8) (held total : Nat) (h : blk.length = 64) (k : Nat) (hk : k < 64) : (sumCells r blk held total)[8 + k]? = some (bv (blk.getD k 0)) := by
  unfold sumCells
  rw [List.append_assoc, List.getElem?_append_right (by simp [list_length]), List.getElem?_append_left (by simp [list_length, h]; omega)]
  simp [list_length, h, hk]

/-- The array of 64 words, the first of them laid. -/
def firsts (l : List Wd) : List Value := l.map uv ++ List.replicate (64 - l.length) (.int .u32 0)
theorem firsts_length (l : List Wd) (h : l.length ≤ 64) : (firsts l).length = 64 := by simp [firsts]; omega
theorem firsts_set (l : List Wd) (x : Wd) (h : l.length < 64) : (firsts l).set l.length (uv x) = firsts (l ++ [x]) := by
  unfold firsts
  rw [List.set_append_right _ _ (by simp)]
  have e : 64 - l.length = (64 - (l ++ [x]).length) + 1 := by simp; omega
  rw [e, List.replicate_succ]
  simp
theorem firsts_at (l : List Wd) (k : Nat) (h : k < l.length) : (firsts l)[k]? = some (.int .u32 (U (l.getD k 0))) := by
  unfold firsts
  rw [List.getElem?_append_left (by simpa using h)]
  simp [h, uv]
theorem wordsOf_take (bs : List UInt8) (k : Nat) (h : k < 16) : (wordsOf bs).take (k + 1) = (wordsOf bs).take k ++ [wordAt bs k] := by
  rw [List.take_succ_eq_append_getElem (by rw [wordsOf_length]; exact h)]
  simp [wordsOf]
theorem firsts_some (l : List Wd) (k : Nat) (h : k < 64) (hl : l.length ≤ 64) : ∃ v, (firsts l)[k]? = some v := ⟨_, List.getElem?_eq_getElem (by rw [firsts_length l hl]; exact h)⟩

theorem u_sum3 (a b c : Wd) : (U a + U b + U c) % 4294967296 = U (a + b + c) := by rw [← u_add', ← u_add']; omega
theorem u_sum4 (a b c d : Wd) : (U a + U b + U c + U d) % 4294967296 = U (a + b + c + d) := by rw [← u_add', ← u_add', ← u_add']; omega
theorem u_sum5 (a b c d e : Wd) : (U a + U b + U c + U d + U e) % 4294967296 = U (a + b + c + d + e) := by rw [← u_add', ← u_add', ← u_add', ← u_add']; omega
theorem next_eq (x2 x7 x15 x16 : Wd) : (bits BinOp.xor IntKind.u32 (U (rotr x2 17 ^^^ rotr x2 19)) (U x2 / 1024) + U x7 + bits BinOp.xor IntKind.u32 (U (rotr x15 7 ^^^ rotr x15 18)) (U x15 / 8) + U x16) % 4294967296 = U (sg1 x2 + x7 + sg0 x15 + x16) := by
  have r3 : U x15 / (8 : Int) = U (x15 >>> 3) := u_shr x15 3
  have r10 : U x2 / (1024 : Int) = U (x2 >>> 10) := u_shr x2 10
  rw [r3, r10, u_xor, u_xor, u_sum4]
  rfl

theorem firsts_full (blk : List UInt8) (k : Nat) (h : k = 48) : firsts (sch (wordsOf blk) k) = (spreadL blk).map uv := by
  have h1 := sch_length (wordsOf blk) (wordsOf_length blk) k
  rw [show 16 + k = 64 by omega] at h1
  unfold firsts spreadL
  rw [h1, h]
  simp

set_option maxRecDepth 100000 in
set_option maxHeartbeats 1000000 in
theorem spread_any (g : Nat) (r : Regs) (blk : List UInt8) (held total : Nat) (w : World) (hb : blk.length = 64) (hr : Row w g 123 (sumCells r blk held total)) :
    Calls Tryd.prog 73 #[.pointer (some ⟨g, 0, none⟩)] w fun e w' => ∃ v, e = .returned v ∧ Hid (v = .agg ((spreadL blk).map uv).toArray ∧ Below w.heap.size w w') := by
  have hg := hr.lt
  have HR := Lib.hid hr
  have HL := Lib.hid hb
  clear hr hb
  go_enter Tryd.func73, Tryd.ntmps73
  go_wp2_with (first
    | (refine wl_alloc (o := ⟨some 2, _, _, _, _, _⟩) rfl 133 rfl _ _ info67 ?_
       intro w1 HA HB HZ)
    | (refine wl_alloc (o := ⟨some 3, _, _, _, _, _⟩) rfl 133 rfl _ _ info67 ?_
       intro w2 HA2 HB2 HZ2))
  have hs1 : w.heap.size < w1.heap.size := by rw [HZ.out]; omega
  have HBW := Lib.hid (HB.out.trans (HB2.out.mono (Nat.le_of_lt hs1)))
  have HG0 := Lib.hid (HA.out.below HB2.out hs1)
  have HG1 : Hid (Row w2 w1.heap.size 133 (firsts [])) := HA2
  clear HZ HZ2 HA HA2 HB HB2
  generalize hg1 : w1.heap.size = g1 at *
  clear hg1
  clear w1
  go_loopw [10] (fun i W => ∃ k : Nat, k ≤ 16 ∧ i = .int .i64 k ∧ Hid (Row W g1 133 (firsts ((wordsOf blk).take k)) ∧ Row W w.heap.size 133 (firsts []) ∧ Below w.heap.size w W)) (fun i _ => 16 - (intOf i).toNat)
  case atStart => exact ⟨0, Nat.zero_le _, rfl, Lib.hid ⟨HG1.out, HG0.out, HBW.out⟩⟩
  case round =>
    obtain ⟨k, hk, rfl, HI⟩ := hrel
    have hg1 : g1 < wr.heap.size := HI.out.1.lt
    by_cases hlt : k < 16
    · have hrow := HR.out.below HI.out.2.2 hg
      have hc : ∀ j, j < 64 → wr.cell? ⟨g, 8 + j, none⟩ = some (bv (blk.getD j 0)) := fun j hj => by rw [hrow.cell, sumCells_byte _ _ _ _ HL.out j hj]
      have HC := Lib.hid hc
      have hsl := run_tail wr 121 64 under45 g 8 (4 * k) (4 * (k : Int)) (by omega) (by omega)
      clear hc hrow
      go_wp2_with fail
      with_reducible refine (wordOf_any g (8 + 4 * k) (64 - 4 * k) (64 - 4 * k) _ _ _ _ wr (by omega) (HC.out (4 * k) (by omega)) (HC.out (4 * k + 1) (by omega)) (HC.out (4 * k + 2) (by omega)) (HC.out (4 * k + 3) (by omega))).mono ?_
      rintro e w' ⟨rfl, m, rfl⟩
      clear hsl
      have hlen : ((wordsOf blk).take k).length = k := by rw [List.length_take, wordsOf_length]; omega
      obtain ⟨v0, hv0⟩ := firsts_some ((wordsOf blk).take k) k (by omega) (by omega)
      have hcell : (wr.drewN m).cell? ⟨g1, k, none⟩ = some v0 := (HI.out.1.cell k).trans hv0
      have hfr : (wr.drewN m).frozen? ⟨g1, k, none⟩ = false := HI.out.1.frozen k
      have HLEN := Lib.hid hlen
      clear hlen hv0
      generalize hx : wordOf _ _ _ _ = x
      have HX : Hid (wordAt blk k = x) := Lib.hid hx
      clear hx
      go_wp2_with fail
      refine ⟨⟨k + 1, by omega, by go_num, Lib.hid ⟨?_, ?_, ?_⟩⟩, by simp [intOf]; omega⟩
      · have h1 := (HI.out.1.drewN m).set k (.int .u32 (U x))
        have h2 := firsts_set ((wordsOf blk).take k) x (by rw [HLEN.out]; omega)
        rw [HLEN.out] at h2
        have h3 : (firsts ((wordsOf blk).take k)).set k (.int .u32 (U x)) = firsts ((wordsOf blk).take k ++ [x]) := h2
        rw [wordsOf_take blk k hlt, HX.out, ← h3]
        exact h1
      · exact (HI.out.2.1.drewN m).setOther _ (by show w.heap.size ≠ g1; omega) _
      · exact (below_drewN HI.out.2.2 m).setCell (by show w.heap.size ≤ g1; omega) _
    · have EK := Lib.hid (show k = 16 by omega)
      have HI2 : Hid (Row wr g1 133 (firsts (sch (wordsOf blk) 0)) ∧ Row wr w.heap.size 133 (firsts []) ∧ Below w.heap.size w wr) := Lib.hid ⟨by have := HI.out.1; rwa [List.take_of_length_le (by rw [wordsOf_length]; omega)] at this, HI.out.2.1, HI.out.2.2⟩
      clear HI
      go_wp2_with fail
      go_loopw [5] (fun i W => ∃ k : Nat, k ≤ 48 ∧ i = .int .i64 ((16 + k : Nat) : Int) ∧ Hid (Row W g1 133 (firsts (sch (wordsOf blk) k)) ∧ Row W w.heap.size 133 (firsts []) ∧ Below w.heap.size w W)) (fun i _ => 64 - (intOf i).toNat)
      case atStart => exact ⟨0, Nat.zero_le _, rfl, HI2⟩
      case round =>
        clear HI2 HG1 HG0 HBW
        obtain ⟨k, hk, rfl, HI⟩ := hrel
        have hgv : g1 < wr.heap.size := HI.out.1.lt
        by_cases hlt : k < 48
        · have hll : (sch (wordsOf blk) k).length = 16 + k := sch_length _ (wordsOf_length blk) k
          obtain ⟨x15, HX15⟩ : ∃ x, Hid (x = (sch (wordsOf blk) k).getD (16 + k - 15) 0) := ⟨_, rfl⟩
          obtain ⟨x2, HX2⟩ : ∃ x, Hid (x = (sch (wordsOf blk) k).getD (16 + k - 2) 0) := ⟨_, rfl⟩
          obtain ⟨x7, HX7⟩ : ∃ x, Hid (x = (sch (wordsOf blk) k).getD (16 + k - 7) 0) := ⟨_, rfl⟩
          obtain ⟨x16, HX16⟩ : ∃ x, Hid (x = (sch (wordsOf blk) k).getD (16 + k - 16) 0) := ⟨_, rfl⟩
          have c15 : wr.cell? ⟨g1, 16 + k - 15, none⟩ = some (.int .u32 (U x15)) := by rw [HI.out.1.cell, firsts_at _ _ (by omega), HX15.out]
          have c2 : wr.cell? ⟨g1, 16 + k - 2, none⟩ = some (.int .u32 (U x2)) := by rw [HI.out.1.cell, firsts_at _ _ (by omega), HX2.out]
          have c7 : ∀ n, (wr.drewN n).cell? ⟨g1, 16 + k - 7, none⟩ = some (.int .u32 (U x7)) := fun n => by rw [(HI.out.1.drewN n).cell, firsts_at _ _ (by omega), HX7.out]
          have c16 : ∀ n, (wr.drewN n).cell? ⟨g1, 16 + k - 16, none⟩ = some (.int .u32 (U x16)) := fun n => by rw [(HI.out.1.drewN n).cell, firsts_at _ _ (by omega), HX16.out]
          have i15 : IntKind.i64.wrap (((16 + k : Nat) : Int) - 15) = ((16 + k - 15 : Nat) : Int) := by rw [IntKind.wrap_i64]; omega
          have i2 : IntKind.i64.wrap (((16 + k : Nat) : Int) - 2) = ((16 + k - 2 : Nat) : Int) := by rw [IntKind.wrap_i64]; omega
          have i7 : IntKind.i64.wrap (((16 + k : Nat) : Int) - 7) = ((16 + k - 7 : Nat) : Int) := by rw [IntKind.wrap_i64]; omega
          have i16 : IntKind.i64.wrap (((16 + k : Nat) : Int) - 16) = ((16 + k - 16 : Nat) : Int) := by rw [IntKind.wrap_i64]; omega
          have HLL := Lib.hid hll
          clear hll
          have hlt' : decide (((16 + k : Nat) : Int) < 64) = true := by simp; omega
          generalize hT : 16 + k = T at *
          have HT := Lib.hid hT
          have hT1 : T < 64 := by omega
          have hT2 : 16 ≤ T := by omega
          clear hT
          go_wp2_with fail
          go_quiet (fail)
          clear c15 c2 i15 i2
          have rx := u_xor
          go_wp2_with fail
          with_reducible refine (right_lit x15 7 7 _ rfl (by decide) (by decide)).mono ?_
          rintro e w' ⟨rfl, rfl⟩
          go_wp2_with fail
          with_reducible refine (right_lit x15 18 18 _ rfl (by decide) (by decide)).mono ?_
          rintro e w' ⟨rfl, rfl⟩
          go_wp2_with fail
          with_reducible refine (right_lit x2 17 17 _ rfl (by decide) (by decide)).mono ?_
          rintro e w' ⟨rfl, rfl⟩
          go_wp2_with fail
          with_reducible refine (right_lit x2 19 19 _ rfl (by decide) (by decide)).mono ?_
          rintro e w' ⟨rfl, rfl⟩
          go_wp2_with fail
          have d7 := c7 nq
          have d16 := c16 nq
          clear c7 c16 rx
          obtain ⟨v0, hv0⟩ := firsts_some (sch (wordsOf blk) k) T (by omega) (by rw [HLL.out]; omega)
          have hcell : (wr.drewN nq).cell? ⟨g1, T, none⟩ = some v0 := (HI.out.1.cell T).trans hv0
          have hfr : (wr.drewN nq).frozen? ⟨g1, T, none⟩ = false := HI.out.1.frozen T
          have HI' := Lib.hid (And.intro (HI.out.1.drewN nq) (And.intro (HI.out.2.1.drewN nq) (below_drewN HI.out.2.2 nq)))
          clear hv0 HI
          generalize wr.drewN nq = wq at *
          go_region
          rw [next_eq]
          generalize hy : sg1 x2 + x7 + sg0 x15 + x16 = y
          have HY := Lib.hid hy
          clear hy
          go_wp2_with fail
          refine ⟨⟨k + 1, by omega, by rw [show 16 + (k + 1) = T + 1 by rw [← HT.out]; omega]; go_num, Lib.hid ⟨?_, ?_, ?_⟩⟩, by simp [intOf]; omega⟩
          · have h1 := HI'.out.1.set T (.int .u32 (U y))
            have h2 := firsts_set (sch (wordsOf blk) k) y (by rw [HLL.out]; omega)
            rw [HLL.out] at h2
            have h3 : (firsts (sch (wordsOf blk) k)).set T (.int .u32 (U y)) = firsts (sch (wordsOf blk) k ++ [y]) := h2
            have h4 : nextW (sch (wordsOf blk) k) (16 + k) = y := by rw [← HY.out, HX2.out, HX7.out, HX15.out, HX16.out, ← HT.out]; rfl
            show Row _ g1 133 (firsts (sch (wordsOf blk) k ++ [nextW (sch (wordsOf blk) k) (16 + k)]))
            rw [h4, ← h3]
            exact h1
          · exact HI'.out.2.1.setOther _ (by show w.heap.size ≠ g1; omega) _
          · exact (HI'.out.2.2.setCell (by show w.heap.size ≤ g1; omega) _).drew
        · have ek : k = 48 := by omega
          have h1 := HI.out.1
          rw [firsts_full blk k ek] at h1
          have HI2 := Lib.hid (And.intro h1 HI.out.2)
          clear h1 ek
          clear HI
          have hsz : ((spreadL blk).map uv).length = 64 := by rw [List.length_map, spreadL_length]
          have hone : ∀ v ∈ (spreadL blk).map uv, v.oneCell' = true := by intro v hv; obtain ⟨x, _, rfl⟩ := List.mem_map.1 hv; rfl
          have HSZ := Lib.hid (And.intro hsz hone)
          clear hsz hone
          obtain ⟨L, HL2⟩ : ∃ L, Shut ((spreadL blk).map uv = L) := ⟨_, ⟨rfl⟩⟩
          have HSZ' : Hid (L.length = 64 ∧ ∀ v ∈ L, v.oneCell' = true) := Lib.hid (by rw [← HL2.out]; exact HSZ.out)
          have HI3 : Hid (Row wr g1 133 L ∧ Row wr w.heap.size 133 (firsts []) ∧ Below w.heap.size w wr) := Lib.hid (by rw [← HL2.out]; exact HI2.out)
          clear HSZ HI2
          go_wp2_with (first
            | (refine wl_load rfl 133 (.tmp 3) rfl g1 rfl 133 _ _ HI3.out.1 under67 rfl (by rw [HSZ'.out.1]; exact info_size info67) ?_
               intro v HV)
            | (refine wl_store rfl 133 (.tmp 2) (.tmp 66) rfl w.heap.size _ L rfl HV.out rfl 133 _ HI3.out.2.1 (by rw [HSZ'.out.1]; exact info_size info67) (by rw [HSZ'.out.1]; rfl) HSZ'.out.2 ?_
               intro w3 HR3 HS3 HZ3))
          refine bodyPost_ret (v := .agg L.toArray) (results_cell_row Tryd.results73 _ w3 w.heap.size 133 _ (0, 0) _ rfl HR3.out under67 rfl (by simpa [HSZ'.out.1] using info_size info67)) rfl ?_
          exact ⟨_, rfl, Lib.hid ⟨by rw [HL2.out], HI3.out.2.2.trans (HS3.out.below (Nat.le_refl _) HI3.out.2.2.size)⟩⟩
end Go.Proofs.YtlmdafldggbiaaaDoor.H
