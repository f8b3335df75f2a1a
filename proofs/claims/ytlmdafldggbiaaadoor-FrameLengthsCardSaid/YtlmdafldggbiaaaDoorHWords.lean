/- What appendWord, newSum and (*sum).addAll do. -/
import Derived.Test.YtlmdafldggbiaaaDoorHAdd
namespace Go.Proofs.YtlmdafldggbiaaaDoor.H
open Go.RowKit

/-- 'v is a row of bytes of our own, out of v0: only v0's row, and what is new, has turned since w0'. -/
structure Acc (w0 w : World) (base : Nat) (v0 v : Value) (xs : List Value) : Prop where
  own : w.ownsRow base 5 1 v xs.length xs
  grown : w0.grownBy w v0.ownBlock
  lies : v.ownBlock = v0.ownBlock ∨ ∃ g, v.ownBlock = some g ∧ w0.heap.size ≤ g
theorem Acc.step {w0 w w1 w2 : World} {base : Nat} {v0 v v2 : Value} {xs ys : List Value} (h : Acc w0 w base v0 v xs) (hb : w.grownBy w1 none) (hown : w2.ownsRow base 5 1 v2 ys.length ys) (hg : w1.grownBy w2 v.ownBlock)
    (hat : v2.ownBlock = v.ownBlock ∨ v2.ownBlock = some w1.heap.size) : Acc w0 w2 base v0 v2 ys := by
  refine ⟨hown, ?_, ?_⟩
  · refine (h.grown.andThen hb (fun j hj => by cases hj)).andThen hg (fun j hj => ?_)
    rcases h.lies with e | ⟨g, e, hge⟩
    · right; rw [← e]; exact hj
    · left; rw [e] at hj; injection hj with hj; omega
  · rcases hat with e | e
    · rcases h.lies with e2 | ⟨g, e2, hge⟩
      · exact .inl (e.trans e2)
      · exact .inr ⟨g, e.trans e2, hge⟩
    · exact .inr ⟨_, e, Nat.le_trans h.grown.size hb.size⟩
theorem grown_alloc (w : World) (o : Obj) : w.grownBy (w.alloc o) none := ⟨rfl, rfl, rfl, by simp, fun k hk _ => Below.heap_alloc w o k hk⟩
theorem Acc.below {w0 w : World} {base : Nat} {v0 v : Value} {xs : List Value} (h : Acc w0 w base v0 v xs) {B : Nat} (hB : B ≤ w0.heap.size) (hv : ∀ k, v0.ownBlock = some k → B ≤ k) : Below B w0 w :=
  (Below.refl B w0).grown h.grown hB hv

theorem own_slice {w : World} {base : Nat} {v : Value} {n : Nat} {bs : List UInt8} (h : w.ownsRow base 5 1 v n (bs.map bv)) : ∃ A c, v = .slice A n c ∧ bs.length = n ∧ n ≤ c ∧ c ≤ maxLen ∧ Rd w w.heap.size A (bs.map bv) ∧ (bs ≠ [] → ∃ g, A = some ⟨g, 0, none⟩ ∧ base ≤ g) := by
  have hl : bs.length = n := by simpa using h.1
  rcases h.2 with ⟨rfl, rfl⟩ | ⟨g, cap, cur, rfl, hb, hg, hnc, hcm, _⟩
  · exact ⟨none, 0, rfl, hl, Nat.le_refl _, by decide, .inl (by simpa using hl), fun hne => absurd (List.eq_nil_of_length_eq_zero hl) hne⟩
  · refine ⟨_, cap, rfl, hl, hnc, hcm, ?_, fun _ => ⟨g, rfl, hb⟩⟩
    refine .inr ⟨⟨g, 0, none⟩, rfl, ?_, h.cells (g := g) rfl⟩
    rcases Nat.lt_or_ge g w.heap.size with hlt | hge
    · exact hlt
    · rw [Array.getElem?_eq_none hge] at hg; cases hg

theorem wb24 (x : Wd) : Value.int .u8 (U x / 16777216 % 256) = bv (UInt8.ofNat (x.toNat / 16777216)) := by
  unfold U bv; congr 1
theorem wb16 (x : Wd) : Value.int .u8 (U x / 65536 % 256) = bv (UInt8.ofNat (x.toNat / 65536)) := by
  unfold U bv; congr 1
theorem wb8 (x : Wd) : Value.int .u8 (U x / 256 % 256) = bv (UInt8.ofNat (x.toNat / 256)) := by
  unfold U bv; congr 1
theorem wb0 (x : Wd) : Value.int .u8 (U x % 256) = bv (UInt8.ofNat x.toNat) := by
  unfold U bv; congr 1
theorem cells_new (w : World) (cs : Array Value) (t : TypeId) : ∀ (j : Nat) (u : Value), cs.toList[j]? = some u → (w.alloc (.cells cs t)).cell? ((⟨w.heap.size, 0, none⟩ : Addr).add j) = some u := by
  intro j u hj
  have e : (w.alloc (.cells cs t)).cell? ⟨w.heap.size, j, none⟩ = _ := World.cell?_alloc_mark w _ t (0, 0) j
  rw [Addr.add_mid, Nat.zero_add, e]
  simpa using hj

set_option maxRecDepth 100000 in
set_option maxHeartbeats 400000 in
theorem appendWord_any (base : Nat) (v0 : Value) (xs : List Value) (x : Wd) (w : World) (hown : w.ownsRow base 5 1 v0 xs.length xs) (hbase : base ≤ w.heap.size) (hlen : xs.length + 4 ≤ 140737488355328) :
    Calls Tryd.prog 71 #[v0, .int .u32 (U x)] w fun e w' => ∃ v, e = .returned v ∧ Hid (Acc w w' base v0 v (xs ++ (wordBytes x).map bv)) := by
  obtain ⟨i0, hi0, hz0, hz1, hz2⟩ := info_parts' u8_info
  have HI := Lib.hid (And.intro hi0 (And.intro hz0 (And.intro hz1 hz2)))
  clear hi0 hz0 hz1 hz2
  have HO := Lib.hid hown
  clear hown
  have hU := U_nn x
  go_enter Tryd.func71, Tryd.ntmps71
  go_wp2_with (first
    | (at_builtin
       refine wpList_append_own_at _ rfl (.tmp 5) (.tmp 17) 23 rfl base 5 i0 _ 1 1 Tryd.underlying23 HI.out.1 HI.out.2.1 HI.out.2.2.1 HI.out.2.2.2 rfl (by omega) v0 _ _ rfl (HO.out.alloc _) ⟨w.heap.size, 0, none⟩ 4 4 [_, _, _, _] rfl rfl (cells_new w _ 5) (by simp [Value.oneCell']) (by simp only [maxLen]; omega) (by omega) (by simp; omega) ?_
       intro v1 w1 hown1 hg1 hnil1 hat1))
  go_ret
  refine ⟨v1, rfl, Lib.hid ?_⟩
  have hA : Acc w w base v0 v0 xs := ⟨HO.out, World.grownBy.refl _ _, .inl rfl⟩
  refine hA.step (grown_alloc w _) ?_ hg1 hat1
  have e : (wordBytes x).map bv = [Value.int .u8 (U x / 16777216 % 256), Value.int .u8 (U x / 65536 % 256), Value.int .u8 (U x / 256 % 256), Value.int .u8 (U x % 256)] := by rw [wb24, wb16, wb8, wb0]; rfl
  rw [e, List.length_append]
  exact hown1

def zeros64 : List UInt8 := List.replicate 64 0
theorem built48 : Tryd.prog.built 123 [(0, .agg #[.int .u32 1779033703, .int .u32 3144134277, .int .u32 1013904242, .int .u32 2773480762, .int .u32 1359893119, .int .u32 2600822924, .int .u32 528734635, .int .u32 1541459225])] = some (sumCells H0 zeros64 0 0).toArray := by kernel_rfl
theorem sum_one (r : Regs) (blk : List UInt8) (h T : Nat) : ∀ v ∈ sumCells r blk h T, v.oneCell' = true := by
  intro v hv
  unfold sumCells at hv
  rcases List.mem_append.1 hv with hv | hv
  · rcases List.mem_append.1 hv with hv | hv
    · obtain ⟨x, _, rfl⟩ := List.mem_map.1 hv; rfl
    · obtain ⟨x, _, rfl⟩ := List.mem_map.1 hv; rfl
  · simp at hv; rcases hv with rfl | rfl <;> rfl
theorem wl_build {w : World} {ops : Array Oper} {rest : List Oper} {o : Oper} {a : Act} {Q : Exit → Act → World → Prop} (hg : o.guard = none) (t : TypeId) (parts : List (Nat × Operand)) (ho : o.op = .build t parts.toArray)
    (cs : List Value) (hb : Tryd.prog.built t (parts.map fun p => (p.1, a.eval p.2)) = some cs.toArray)
    (h : ∀ v, Hid (v = Value.agg cs.toArray) → wpList Tryd.prog ops Q rest (a.put o.dst v) w) : wpList Tryd.prog ops Q (o :: rest) a w := by
  have e : (parts.toArray.map fun (i, x) => (i, a.eval x)).toList = parts.map fun p => (p.1, a.eval p.2) := by simp
  refine wpList_build hg t parts.toArray ho (by rw [e, hb]; rfl) ?_
  rw [e, hb]
  exact h _ rfl

theorem len48 (r : Regs) (h T : Nat) : (sumCells r zeros64 h T).length = 74 := sumCells_length _ _ _ _ rfl
set_option maxRecDepth 100000 in
set_option maxHeartbeats 400000 in
theorem newSum_any (w : World) : Calls Tryd.prog 65 #[] w fun e w' => ∃ v, e = .returned v ∧ Hid (v = .agg (sumCells H0 zeros64 0 0).toArray ∧ Below w.heap.size w w') := by
  obtain ⟨L, HL⟩ : ∃ L, Shut (L = sumCells H0 zeros64 0 0) := ⟨_, ⟨rfl⟩⟩
  have HB : Shut (Tryd.prog.built 123 [(0, .agg #[.int .u32 1779033703, .int .u32 3144134277, .int .u32 1013904242, .int .u32 2773480762, .int .u32 1359893119, .int .u32 2600822924, .int .u32 528734635, .int .u32 1541459225])] = some L.toArray) := ⟨by rw [HL.out]; exact built48⟩
  have HZ : Shut (L.length = 74 ∧ ∀ v ∈ L, v.oneCell' = true) := ⟨by rw [HL.out]; exact ⟨len48 _ _ _, sum_one _ _ _ _⟩⟩
  go_enter Tryd.func65, Tryd.ntmps65
  go_wp2_with (first
    | (refine wl_alloc rfl 123 rfl _ _ info48 ?_
       intro w1 HA HB1 HZ1)
    | (refine wl_build rfl 123 [(0, .tmp 1)] rfl L HB.out ?_
       intro v HV)
    | (refine wl_store rfl 123 (.tmp 0) (.tmp 2) rfl w.heap.size _ L rfl HV.out rfl 123 _ HA.out (by rw [HZ.out.1]; exact info_size info48) (by rw [HZ.out.1]; rfl) HZ.out.2 ?_
       intro w2 HR2 HS2 HZ2))
  refine bodyPost_ret (v := .agg L.toArray) (results_cell_row Tryd.results65 _ w2 w.heap.size 123 _ (0, 0) _ rfl HR2.out Tryd.underlying123 rfl (by simpa [HZ.out.1] using info_size info48)) rfl ?_
  refine ⟨_, rfl, Lib.hid ⟨by rw [HL.out], HB1.out.trans (HS2.out.below (Nat.le_refl _) (by rw [HZ1.out]; omega))⟩⟩
end Go.Proofs.YtlmdafldggbiaaaDoor.H
