/- Laws at single operations, the world behind them a name: a new variable, a whole row loaded or stored, a result that lies in a variable. -/
import Derived.Test.YtlmdafldggbiaaaDoorHLeaf
import Derived.Deep.MidRow
namespace Go.Proofs.YtlmdafldggbiaaaDoor.H
open Go.RowKit

theorem Row.setRow {w : World} {g : Nat} {t : TypeId} {cs : List Value} (h : Row w g t cs) (ds : List Value) : Row (w.setRow g ds.toArray) g t ds := setRow_heap w g _ _ t (0, 0) h
theorem Row.setRowOther {w : World} {g k : Nat} {t : TypeId} {cs : List Value} (h : Row w k t cs) (ds : Array Value) (hk : k ≠ g) : Row (w.setRow g ds) k t cs := (setRow_other w g k ds hk).trans h
theorem Sole.setRow {g : Nat} {a w : World} (h : Sole g a w) (ds : Array Value) : Sole g a (w.setRow g ds) :=
  h.trans ⟨rfl, rfl, rfl, by simp [World.setRow], fun i _ hg => setRow_other w g i ds hg⟩
theorem below_of_sole {g B : Nat} {a w w' : World} (h : Below B a w) (hs : Sole g w w') (hg : B ≤ g) (hB : B ≤ w.heap.size) : Below B a w' := h.trans (hs.below hg hB)

theorem wl_alloc {w : World} {ops : Array Oper} {rest : List Oper} {o : Oper} {a : Act} {Q : Exit → Act → World → Prop} (hgd : o.guard = none) (t : TypeId) (ho : o.op = .alloc t)
    (cs : List Value) (n : Nat) (hz : (Tryd.prog.info? t).map (fun i => (i.zero, i.size)) = some (some (.agg cs.toArray), n))
    (h : ∀ w', Hid (Row w' w.heap.size t cs) → Hid (Below w.heap.size w w') → Hid (w'.heap.size = w.heap.size + 1) → wpList Tryd.prog ops Q rest (a.put o.dst (.pointer (some ⟨w.heap.size, 0, none⟩))) w') :
    wpList Tryd.prog ops Q (o :: rest) a w := by
  refine wpList_plain hgd fun K hK => ?_
  unfold Oper.wp execOp
  simp only [ho, Sem.run_bind, Instr.alloc, (zero_of_info hz).1, newVar, newRow, run_newObj_alloc, Sem.run_pure, Result.andThen_ok, Value.cells]
  exact hK _ _ (h _ (Row.new w cs t) ((Below.refl _ _).alloc (Nat.le_refl _) _) (by show (w.alloc _).heap.size = _; simp))
theorem wl_store {w : World} {ops : Array Oper} {rest : List Oper} {o : Oper} {a : Act} {Q : Exit → Act → World → Prop} (hgd : o.guard = none) (ty : TypeId) (x y : Operand) (ho : o.op = .store ty x y)
    (g : Nat) (cells : Array Value) (cs : List Value) (hx : a.eval x = .pointer (some ⟨g, 0, none⟩)) (hy : a.eval y = .agg cells) (hc : cells = cs.toArray) (t : TypeId) (old : List Value) (hr : Row w g t old)
    (hi : (Tryd.prog.info? ty).map (·.size) = some cs.length) (hold : old.length = cs.length) (h1 : ∀ v ∈ cs, v.oneCell' = true)
    (h : ∀ w', Hid (Row w' g t cs) → Hid (Sole g w w') → Hid (w'.heap.size = w.heap.size) → wpList Tryd.prog ops Q rest (a.put o.dst undef) w') : wpList Tryd.prog ops Q (o :: rest) a w := by
  subst hc
  exact wpList_store_row hgd ty x y ho g cs.toArray hx hy t old.toArray hr (by simpa using hi) (by simpa using hold) (all_oneCell_toArray h1)
    (h _ (hr.setRow cs) ((Sole.refl g w).setRow _) (by show (w.setRow g cs.toArray).heap.size = w.heap.size; simp [World.setRow]))
theorem wl_load {w : World} {ops : Array Oper} {rest : List Oper} {o : Oper} {a : Act} {Q : Exit → Act → World → Prop} (hgd : o.guard = none) (ty : TypeId) (x : Operand) (ho : o.op = .load ty x)
    (g : Nat) (hx : a.eval x = .pointer (some ⟨g, 0, none⟩)) (t : TypeId) (cs : List Value) (d : TypeDesc) (hr : Row w g t cs) (hu : Tryd.prog.underlying ty = some d) (hd : d.isRow = true)
    (hi : (Tryd.prog.info? ty).map (·.size) = some cs.length)
    (h : ∀ v, Hid (v = Value.agg cs.toArray) → wpList Tryd.prog ops Q rest (a.put o.dst v) w) : wpList Tryd.prog ops Q (o :: rest) a w :=
  wpList_load_row hgd ty x ho g hx t cs.toArray (0, 0) d hr hu (by cases d <;> simp_all) (by simpa using hi) (h _ rfl)
theorem info67 : (Tryd.prog.info? 133).map (fun i => (i.zero, i.size)) = some (some (.agg (List.replicate 64 (Value.int .u32 0)).toArray), 64) := by kernel_rfl
theorem info45 : (Tryd.prog.info? 121).map (fun i => (i.zero, i.size)) = some (some (.agg (List.replicate 64 (Value.int .u8 0)).toArray), 64) := by kernel_rfl
theorem info27 : (Tryd.prog.info? 115).map (fun i => (i.zero, i.size)) = some (some (.agg (List.replicate 32 (Value.int .u8 0)).toArray), 32) := by kernel_rfl
theorem info29 : (Tryd.prog.info? 94).map (fun i => (i.zero, i.size)) = some (some (.agg (List.replicate 4 (Value.int .u8 0)).toArray), 4) := by kernel_rfl
theorem info48 : (Tryd.prog.info? 123).map (fun i => (i.zero, i.size)) = some (some (.agg (List.replicate 8 (Value.int .u32 0) ++ List.replicate 64 (Value.int .u8 0) ++ [Value.int .i64 0, Value.int .u64 0]).toArray), 74) := by kernel_rfl
theorem info_size {t : TypeId} {v : Value} {n : Nat} (h : (Tryd.prog.info? t).map (fun i => (i.zero, i.size)) = some (some v, n)) : (Tryd.prog.info? t).map (·.size) = some n := (zero_of_info h).2
theorem under45 : Tryd.prog.underlying 121 = some (.array 64 5) := by kernel_rfl
theorem under27 : Tryd.prog.underlying 115 = some (.array 32 5) := by kernel_rfl
theorem under29 : Tryd.prog.underlying 94 = some (.array 4 5) := by kernel_rfl
theorem under67 : Tryd.prog.underlying 133 = some (.array 64 89) := by kernel_rfl
theorem under44 : Tryd.prog.underlying 120 = some (.array 8 89) := by kernel_rfl
theorem under48 : ∃ fs, Tryd.prog.underlying 123 = some (.struct fs) := ⟨_, Tryd.underlying123⟩
/-- An array's end, from l on. -/
theorem run_tail (w : World) (t : TypeId) (n : Nat) (hu : Tryd.prog.underlying t = some (.array n 5)) (g o l : Nat) (z : Int) (hz : z = (l : Int)) (hl : l < n) :
    (Instr.sliceAt t (.pointer (some ⟨g, o, none⟩)) (some (.int .i64 z)) none none).run Tryd.prog w = .ok (.slice (some ⟨g, o + l, none⟩) (n - l) (n - l)) w := by
  subst hz
  obtain ⟨i0, hi0, _, hz1, _⟩ := info_parts' u8_info
  have h2 : ¬ n = l := by omega
  have h3 : l ≤ n := by omega
  simp [Instr.sliceAt, Instr.sureAddr, run_underlying hu, Instr.sliceBounds, run_sliceBound, sizeOf, typeInfo, hi0, hz1, h2, h3, Addr.add_mid]
theorem run_all (w : World) (t : TypeId) (n : Nat) (hu : Tryd.prog.underlying t = some (.array n 5)) (g o : Nat) :
    (Instr.sliceAt t (.pointer (some ⟨g, o, none⟩)) none none none).run Tryd.prog w = .ok (.slice (some ⟨g, o, none⟩) n n) w := by
  obtain ⟨i0, hi0, _⟩ := info_parts' u8_info
  simp [Instr.sliceAt, Instr.sureAddr, run_underlying hu, Instr.sliceBounds, sizeOf, typeInfo, hi0, Addr.add_mid]
theorem u32_info : (Tryd.prog.info? 89).map (fun i => (i.zero, i.size, i.bytes)) = some (some (.int .u32 0), 1, 4) := by kernel_rfl
/-- The j-th of eight words. -/
theorem run_word (w : World) (cs : List Value) (j : Nat) (v : Value) (h8 : j < 8) (hv : cs[j]? = some v) :
    (Instr.index 120 (.agg cs.toArray) (.int .i64 (j : Int))).run Tryd.prog w = .ok v w := by
  obtain ⟨i0, hi0, _, hz1, _⟩ := info_parts' u32_info
  have hagg : (isAgg 89).run Tryd.prog w = .ok false w := by
    unfold isAgg
    rw [Sem.run_bind, run_underlying Tryd.underlying89 w]
    rfl
  simp [Instr.index, asIntOf, run_underlying under44, sizeOf, typeInfo, hi0, hz1, part, hagg, h8, hv]
end Go.Proofs.YtlmdafldggbiaaaDoor.H
