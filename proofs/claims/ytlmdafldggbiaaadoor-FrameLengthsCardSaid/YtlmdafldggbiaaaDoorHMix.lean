/- What (*sum).mix does: the words of the sum become those behind its block. -/
import Derived.Test.YtlmdafldggbiaaaDoorHSpread
namespace Go.Proofs.YtlmdafldggbiaaaDoor.H
open Go.RowKit

/-- The table of the rounds' words, as the variable holds it. -/
def Ktab (w : World) : Prop := 19 < w.heap.size ∧ ∀ t, t < 64 → w.cell? ⟨19, t, none⟩ = some (.int .u32 (U (KT.getD t 0)))
theorem Ktab.below {w w' : World} (h : Ktab w) {B : Nat} (hB : 19 < B) (hb : Below B w w') : Ktab w' := ⟨Nat.lt_of_lt_of_le h.1 hb.size, fun t ht => (hb.cell (p := ⟨19, t, none⟩) hB).trans (h.2 t ht)⟩
theorem Ktab.sole {w w' : World} (h : Ktab w) {g : Nat} (hg : 19 < g) (hb : Sole g w w') : Ktab w' := ⟨Nat.lt_of_lt_of_le h.1 hb.size, fun t ht => (hb.cell (p := ⟨19, t, none⟩) h.1 (by show 19 ≠ g; omega)).trans (h.2 t ht)⟩

def sumCellsL (l : List Wd) (blk : List UInt8) (held total : Nat) : List Value := l.map uv ++ blk.map bv ++ [.int .i64 (held : Int), .int .u64 (total : Int)]
theorem sumCells_eq (r : Regs) (blk : List UInt8) (held total : Nat) : sumCells r blk held total = sumCellsL r.list blk held total := rfl
theorem sumCellsL_word (l : List Wd) (blk : List UInt8) (held total k : Nat) (h : k < l.length) : (sumCellsL l blk held total)[k]? = some (.int .u32 (U (l.getD k 0))) := by
  unfold sumCellsL
  rw [List.append_assoc, List.getElem?_append_left (by simpa using h)]
  simp [h, uv]
theorem sumCellsL_set (l : List Wd) (blk : List UInt8) (held total k : Nat) (x : Wd) (h : k < l.length) : (sumCellsL l blk held total).set k (.int .u32 (U x)) = sumCellsL (l.set k x) blk held total := by
  unfold sumCellsL
  rw [List.append_assoc, List.set_append_left _ _ (by simpa using h), ← List.append_assoc]
  congr 2
  rw [show Value.int .u32 (U x) = uv x from rfl, List.map_set]

theorem u32max : IntKind.u32.max = 4294967295 := rfl
theorem t1_eq (r : Regs) (k w : Wd) : (U r.h + U (bg1 r.e) + bits .xor .u32 (bits .and .u32 (U r.e) (U r.f)) (bits .and .u32 (bits .xor .u32 IntKind.u32.max (U r.e)) (U r.g)) + U k + U w) % 4294967296 = U (t1F k w r) := by
  rw [u32max, u_not, u_and, u_and, u_xor, u_sum5]
  rfl
theorem t2_eq (r : Regs) : (U (bg0 r.a) + bits .xor .u32 (bits .xor .u32 (bits .and .u32 (U r.a) (U r.b)) (bits .and .u32 (U r.a) (U r.c))) (bits .and .u32 (U r.b) (U r.c))) % 4294967296 = U (t2F r) := by
  rw [u_and, u_and, u_and, u_xor, u_xor, u_add']
  rfl
/-- The first k words added, the others as they were. -/
def addedL (r s : Regs) (k : Nat) : List Wd := (r.plus s).list.take k ++ r.list.drop k
theorem addedL_length (r s : Regs) (k : Nat) (h : k ≤ 8) : (addedL r s k).length = 8 := by
  simp [addedL, list_length]; omega
theorem addedL_at (r s : Regs) (k : Nat) (h : k < 8) : (addedL r s k).getD k 0 = r.list.getD k 0 := by
  unfold addedL
  rw [List.getD_eq_getElem?_getD, List.getElem?_append_right (by rw [List.length_take, list_length]; omega), List.length_take, list_length, List.getElem?_drop, List.getD_eq_getElem?_getD]
  congr 2
  omega
theorem plus_at (r s : Regs) (k : Nat) (h : k < 8) : r.list.getD k 0 + s.list.getD k 0 = (r.plus s).list.getD k 0 := by
  match k, h with
  | 0, _ => rfl
  | 1, _ => rfl
  | 2, _ => rfl
  | 3, _ => rfl
  | 4, _ => rfl
  | 5, _ => rfl
  | 6, _ => rfl
  | 7, _ => rfl
theorem addedL_set (r s : Regs) (k : Nat) (h : k < 8) : (addedL r s k).set k (r.list.getD k 0 + s.list.getD k 0) = addedL r s (k + 1) := by
  rw [plus_at r s k h]
  obtain ⟨a, b, c, d, e, f, g, hh⟩ := r
  match k, h with
  | 0, _ => rfl
  | 1, _ => rfl
  | 2, _ => rfl
  | 3, _ => rfl
  | 4, _ => rfl
  | 5, _ => rfl
  | 6, _ => rfl
  | 7, _ => rfl
theorem addedL_full (r s : Regs) : addedL r s 8 = (r.plus s).list := rfl

set_option maxRecDepth 100000 in
set_option maxHeartbeats 1000000 in
theorem mix_any (g : Nat) (r : Regs) (blk : List UInt8) (held total : Nat) (w : World) (hK : Ktab w) (hg0 : 19 < g) (hb : blk.length = 64) (hr : Row w g 123 (sumCells r blk held total)) :
    Calls Tryd.prog 72 #[.pointer (some ⟨g, 0, none⟩)] w fun e w' => e = .returned (.tuple #[]) ∧ Hid (Row w' g 123 (sumCells (comp r blk) blk held total) ∧ Sole g w w') := by
  have hg := hr.lt
  have HR := Lib.hid hr
  have HL := Lib.hid hb
  have HK := Lib.hid hK
  clear hr hb hK
  go_enter Tryd.func72, Tryd.ntmps72
  go_wp2_with fail
  with_reducible refine (spread_any g r blk held total w HL.out HR.out).mono ?_
  rintro e w1 ⟨v, rfl, HV⟩
  have hsz : ((spreadL blk).map uv).length = 64 := by rw [List.length_map, spreadL_length]
  have hone : ∀ v ∈ (spreadL blk).map uv, v.oneCell' = true := by intro v hv; obtain ⟨x, _, rfl⟩ := List.mem_map.1 hv; rfl
  obtain ⟨L, HL2⟩ : ∃ L, Shut ((spreadL blk) = L) := ⟨_, ⟨rfl⟩⟩
  rw [HL2.out] at hsz hone
  have HSZ := Lib.hid (And.intro hsz hone)
  have HV' : Hid (v = .agg (L.map uv).toArray ∧ Below w.heap.size w w1) := Lib.hid (by rw [← HL2.out]; exact HV.out)
  clear hsz hone HV
  go_wp2_with (first
    | (refine wl_alloc (o := ⟨some 2, _, _, _, _, _⟩) rfl 133 rfl _ _ info67 ?_
       intro w2 HA HB HZ)
    | (refine wl_store rfl 133 (.tmp 2) (.tmp 17) rfl w1.heap.size _ (L.map uv) rfl HV'.out.1 rfl 133 _ HA.out (by rw [HSZ.out.1]; exact info_size info67) (by rw [HSZ.out.1]; rfl) HSZ.out.2 ?_
       intro w3 HR3 HS3 HZ3))
  have hs1 : w.heap.size ≤ w1.heap.size := HV'.out.2.size
  have hz2 : w2.heap.size = w1.heap.size + 1 := HZ.out
  have HBW : Hid (Below w.heap.size w w3) := Lib.hid ((HV'.out.2.trans (HB.out.mono hs1)).trans (HS3.out.below hs1 (by omega)))
  clear HV' HA HB HZ HS3 HZ3 hz2
  generalize hg1 : w1.heap.size = g1 at *
  clear hg1
  clear w1 w2
  have HRW := Lib.hid (HR.out.below HBW.out hg)
  have hw : ∀ n k, k < 8 → (w3.drewN n).cell? ⟨g, k, none⟩ = some (.int .u32 (U (r.list.getD k 0))) := fun n k hk => by
    rw [(HRW.out.drewN n).cell, sumCells_eq, sumCellsL_word _ _ _ _ _ (by rw [list_length]; exact hk)]
  obtain ⟨a, b, c, d, e, f, gg, h⟩ := r
  have ca : w3.cell? ⟨g, 0, none⟩ = some (.int .u32 (U a)) := hw 0 0 (by decide)
  have cb : w3.cell? ⟨g, 1, none⟩ = some (.int .u32 (U b)) := hw 0 1 (by decide)
  have cc : w3.cell? ⟨g, 2, none⟩ = some (.int .u32 (U c)) := hw 0 2 (by decide)
  have cd : w3.cell? ⟨g, 3, none⟩ = some (.int .u32 (U d)) := hw 0 3 (by decide)
  have ce : ∀ n, (w3.drewN n).cell? ⟨g, 4, none⟩ = some (.int .u32 (U e)) := fun n => hw n 4 (by decide)
  have cf : ∀ n, (w3.drewN n).cell? ⟨g, 5, none⟩ = some (.int .u32 (U f)) := fun n => hw n 5 (by decide)
  have cg : ∀ n, (w3.drewN n).cell? ⟨g, 6, none⟩ = some (.int .u32 (U gg)) := fun n => hw n 6 (by decide)
  have ch : ∀ n, (w3.drewN n).cell? ⟨g, 7, none⟩ = some (.int .u32 (U h)) := fun n => hw n 7 (by decide)
  clear hw
  go_quiet (fail)
  clear ca cb cc cd
  go_wp2_with fail
  have ce' := ce nq
  have cf' := cf nq
  have cg' := cg nq
  have ch' := ch nq
  have HBW4 := Lib.hid (below_drewN HBW.out nq)
  have HRW4 := Lib.hid (HRW.out.drewN nq)
  have HR4 := Lib.hid (HR3.out.drewN nq)
  clear ce cf cg ch HBW HRW HR3
  generalize w3.drewN nq = w4 at *
  clear w3
  go_quiet (fail)
  clear ce' cf' cg' ch'
  go_wp2_with fail
  have hlenL : L.length = 64 := by simpa using HSZ.out.1
  have HLL := Lib.hid hlenL
  clear hlenL HSZ
  go_loopw [3, 4, 5, 6, 7, 8, 9, 10, 58] (fun a' b' c' d' e' f' g' h' i W => ∃ (k : Nat) (q : Regs), k ≤ 64 ∧ i = .int .i64 k ∧ a' = .int .u32 (U q.a) ∧ b' = .int .u32 (U q.b) ∧ c' = .int .u32 (U q.c) ∧ d' = .int .u32 (U q.d) ∧ e' = .int .u32 (U q.e) ∧ f' = .int .u32 (U q.f) ∧ g' = .int .u32 (U q.g) ∧ h' = .int .u32 (U q.h) ∧
      Shut (q = rounds KT L ⟨a, b, c, d, e, f, gg, h⟩ k) ∧ Hid (∃ n, W = w4.drewN n)) (fun _ _ _ _ _ _ _ _ i _ => 64 - (intOf i).toNat)
  case atStart => exact ⟨0, ⟨a, b, c, d, e, f, gg, h⟩, Nat.zero_le _, rfl, rfl, rfl, rfl, rfl, rfl, rfl, rfl, rfl, ⟨rfl⟩, Lib.hid ⟨nq, rfl⟩⟩
  case round =>
    obtain ⟨k, ⟨a', b', c', d', e', f', g', h'⟩, hk, rfl, rfl, rfl, rfl, rfl, rfl, rfl, rfl, rfl, HQ, HN⟩ := hrel
    by_cases hlt : k < 64
    · obtain ⟨kk, HKK⟩ : ∃ x, Shut (x = KT.getD k 0) := ⟨_, ⟨rfl⟩⟩
      obtain ⟨ww, HWW⟩ : ∃ x, Shut (x = L.getD k 0) := ⟨_, ⟨rfl⟩⟩
      have cK : wr.cell? ⟨19, k, none⟩ = some (.int .u32 (U kk)) := by
        obtain ⟨n, hn⟩ := HN.out
        rw [hn, HKK.out]
        exact (HBW4.out.cell (p := ⟨19, k, none⟩) (Nat.lt_of_lt_of_le hg0 (Nat.le_of_lt hg))).trans (HK.out.2 k hlt)
      have cW : wr.cell? ⟨g1, k, none⟩ = some (.int .u32 (U ww)) := by
        obtain ⟨n, hn⟩ := HN.out
        rw [hn, HWW.out]
        rw [(HR4.out.drewN n).cell, List.getElem?_map, List.getElem?_eq_getElem (by rw [HLL.out]; exact hlt)]
        simp [uv, List.getD, List.getElem?_eq_getElem (show k < L.length by rw [HLL.out]; exact hlt)]
      dsimp only at *
      have hsg : IntKind.u32.signed = false := rfl
      go_wp2_with fail
      go_quiet ((go_at_call 74; exact quietL (turned1 _ _)))
      go_wp2_with fail
      with_reducible refine (turned0 a' _).mono ?_
      rintro e1 w' ⟨rfl, rfl⟩
      go_wp2_with fail
      have e1 := t1_eq ⟨a', b', c', d', e', f', g', h'⟩ kk ww
      have e2 := t2_eq ⟨a', b', c', d', e', f', g', h'⟩
      dsimp only at e1 e2
      rw [e1, e2, u_add', u_add']
      refine ⟨⟨k + 1, rnd kk ww ⟨a', b', c', d', e', f', g', h'⟩, by omega, by go_num, rfl, rfl, rfl, rfl, rfl, rfl, rfl, rfl, ⟨?_⟩, ?_⟩, by simp [intOf]; omega⟩
      · rw [rounds, HQ.out, ← HKK.out, ← HWW.out]
      · obtain ⟨n, hn⟩ := HN.out
        exact Lib.hid ⟨n + nq, by rw [hn]; simp [World.drewN, Nat.add_assoc]⟩
    · have hsg : IntKind.u32.signed = false := rfl
      obtain ⟨n, hn⟩ := HN.out
      have HBW5 : Hid (Below w.heap.size w wr) := Lib.hid (by rw [hn]; exact below_drewN HBW4.out n)
      have HRW5 : Hid (Row wr g 123 (sumCells ⟨a, b, c, d, e, f, gg, h⟩ blk held total)) := Lib.hid (by rw [hn]; exact HRW4.out.drewN n)
      clear hn n HN HRW4 HBW4 HR4
      have HQ' : Shut (⟨a', b', c', d', e', f', g', h'⟩ = rounds KT L ⟨a, b, c, d, e, f, gg, h⟩ 64) := ⟨by rw [HQ.out, show k = 64 by omega]⟩
      clear HQ
      dsimp only at *
      go_wp2_with fail
      go_loopw [118] (fun i W => ∃ k : Nat, k ≤ 8 ∧ i = .int .i64 k ∧ Hid (Row W g 123 (sumCellsL (addedL ⟨a, b, c, d, e, f, gg, h⟩ ⟨a', b', c', d', e', f', g', h'⟩ k) blk held total) ∧ Sole g w W)) (fun i _ => 8 - (intOf i).toNat)
      case atStart => exact ⟨0, Nat.zero_le _, rfl, Lib.hid ⟨HRW5.out, Sole.of_below HBW5.out⟩⟩
      case round =>
        obtain ⟨j, hj, rfl, HI⟩ := hrel
        by_cases hjl : j < 8
        · obtain ⟨x, HX⟩ : ∃ x, Shut (x = (Regs.mk a b c d e f gg h).list.getD j 0) := ⟨_, ⟨rfl⟩⟩
          obtain ⟨y, HY⟩ : ∃ x, Shut (x = (Regs.mk a' b' c' d' e' f' g' h').list.getD j 0) := ⟨_, ⟨rfl⟩⟩
          have hix := run_word wr [.int .u32 (U a'), .int .u32 (U b'), .int .u32 (U c'), .int .u32 (U d'), .int .u32 (U e'), .int .u32 (U f'), .int .u32 (U g'), .int .u32 (U h')] j (.int .u32 (U y)) hjl (by
            rw [HY.out]
            match j, hjl with
            | 0, _ => rfl
            | 1, _ => rfl
            | 2, _ => rfl
            | 3, _ => rfl
            | 4, _ => rfl
            | 5, _ => rfl
            | 6, _ => rfl
            | 7, _ => rfl)
          have hcell : wr.cell? ⟨g, j, none⟩ = some (.int .u32 (U x)) := by
            rw [HI.out.1.cell, sumCellsL_word _ _ _ _ _ (by rw [addedL_length _ _ _ hj]; exact hjl), addedL_at _ _ _ hjl, HX.out]
          have hfr : wr.frozen? ⟨g, j, none⟩ = false := HI.out.1.frozen j
          go_wp2_with fail
          clear hix
          go_region
          rw [u_add']
          go_wp2_with fail
          refine ⟨⟨j + 1, by omega, by go_num, Lib.hid ⟨?_, ?_⟩⟩, by simp [intOf]; omega⟩
          · have h1 := HI.out.1.set j (.int .u32 (U (x + y)))
            rw [sumCellsL_set _ _ _ _ _ _ (by rw [addedL_length _ _ _ hj]; exact hjl), HX.out, HY.out, addedL_set _ _ _ hjl, ← HX.out, ← HY.out] at h1
            exact h1
          · exact (HI.out.2.setCell j _).drewN 1
        · go_wp2_with fail
          go_end0
          refine ⟨rfl, Lib.hid ⟨?_, HI.out.2⟩⟩
          have h1 := HI.out.1
          rw [show j = 8 by omega, addedL_full] at h1
          unfold comp
          rw [HL2.out, ← HQ'.out]
          exact h1
end Go.Proofs.YtlmdafldggbiaaaDoor.H
