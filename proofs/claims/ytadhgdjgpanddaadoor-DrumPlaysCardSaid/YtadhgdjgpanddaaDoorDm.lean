/- A drum as mathematics, and where it lies; laws for rows of blocks. -/
import Derived.Test.YtadhgdjgpanddaaDoorMem
import Derived.Test.YtadhgdjgpanddaaDoorLaid
import Derived.RegionTactic
import Derived.LoopTactic
import Derived.Laws.CopyOwn
import Derived.Laws.Tables
namespace Go.Proofs.YtadhgdjgpanddaaDoor
open Go.RowKit

structure Dm where
  all : List UInt8
  n : Nat
  off : Bool
  armed : Bool
  left : Nat
  writes : Nat
/-- A drum's cells. -/
def cellsD (D : Dm) (h : Nat) : List Value := [.bool D.off, .bool D.armed, .int .i64 (D.left : Int), .slice (some ⟨h, 0, none⟩) D.n D.n, .int .i64 (D.writes : Int)]
/-- The numbers that a drum keeps to. -/
structure Dm.ok (D : Dm) : Prop where
  lo : 1 ≤ D.n
  hi : D.n ≤ 4096
  len : D.all.length = D.n * 64
  left : D.left ≤ 9223372036854775807
  writes : D.writes ≤ 1000000
/-- The drum D lies at block g, its blocks' bytes at h. -/
structure DrumAt (w : World) (g h : Nat) (D : Dm) : Prop where
  row : Row w g 35 (cellsD D h)
  blk : Row w h 47 (D.all.map bv)
  ne : g ≠ h
  ok : D.ok
def Two (g h : Nat) (k : Nat) : Prop := k = g ∨ k = h

theorem DrumAt.keep {w w' : World} {g h : Nat} {D : Dm} (H : DrumAt w g h D) (hg : w'.heap[g]? = w.heap[g]?) (hh : w'.heap[h]? = w.heap[h]?) : DrumAt w' g h D := ⟨hg.trans H.row, hh.trans H.blk, H.ne, H.ok⟩
theorem DrumAt.stay {w w' : World} {g h : Nat} {D : Dm} (H : DrumAt w g h D) (hs : Stay w w') : DrumAt w' g h D := H.keep (by rw [hs.heap]) (by rw [hs.heap])
theorem DrumAt.below {w w' : World} {g h B : Nat} {D : Dm} (H : DrumAt w g h D) (hb : Below B w w') (hg : g < B) (hh : h < B) : DrumAt w' g h D := H.keep (hb.block g hg) (hb.block h hh)
theorem DrumAt.under {w w' : World} {g h : Nat} {D : Dm} (H : DrumAt w g h D) (hb : Below w.heap.size w w') : DrumAt w' g h D := H.below hb H.row.lt H.blk.lt
theorem DrumAt.turn {w w' : World} {g h : Nat} {D : Dm} {F : Nat → Prop} (H : DrumAt w g h D) (ht : Turn F w w') (hg : ¬ F g) (hh : ¬ F h) : DrumAt w' g h D := H.keep (ht.block g H.row.lt hg) (ht.block h H.blk.lt hh)
theorem DrumAt.c0 {w : World} {g h : Nat} {D : Dm} (H : DrumAt w g h D) : w.cell? ⟨g, 0, none⟩ = some (.bool D.off) := H.row.cell 0
theorem DrumAt.c1 {w : World} {g h : Nat} {D : Dm} (H : DrumAt w g h D) : w.cell? ⟨g, 1, none⟩ = some (.bool D.armed) := H.row.cell 1
theorem DrumAt.c2 {w : World} {g h : Nat} {D : Dm} (H : DrumAt w g h D) : w.cell? ⟨g, 2, none⟩ = some (.int .i64 (D.left : Int)) := H.row.cell 2
theorem DrumAt.c3 {w : World} {g h : Nat} {D : Dm} (H : DrumAt w g h D) : w.cell? ⟨g, 3, none⟩ = some (.slice (some ⟨h, 0, none⟩) D.n D.n) := H.row.cell 3
theorem DrumAt.c4 {w : World} {g h : Nat} {D : Dm} (H : DrumAt w g h D) : w.cell? ⟨g, 4, none⟩ = some (.int .i64 (D.writes : Int)) := H.row.cell 4
theorem DrumAt.set {w : World} {g h : Nat} {D D' : Dm} (H : DrumAt w g h D) (k : Nat) (x : Value) (hc : (cellsD D h).set k x = cellsD D' h) (ha : D'.all = D.all) (hk : D'.ok) : DrumAt (w.setCell ⟨g, k, none⟩ x) g h D' :=
  ⟨by rw [← hc]; exact H.row.set k x, by rw [ha]; exact (Below.heap_setCell _ _ _ _ (fun e => H.ne e.symm)).trans H.blk, H.ne, hk⟩
theorem DrumAt.turn_set {w : World} {g h : Nat} (k : Nat) (x : Value) : Turn (Two g h) w (w.setCell ⟨g, k, none⟩ x) := (Turn.refl _ w).setCell _ (fun _ => .inl rfl) x

theorem Row.keep {w w' : World} {g : Nat} {t : TypeId} {cs : List Value} (h : Row w g t cs) (hg : w'.heap[g]? = w.heap[g]?) : Row w' g t cs := hg.trans h
theorem Row.below {w w' : World} {g B : Nat} {t : TypeId} {cs : List Value} (h : Row w g t cs) (hb : Below B w w') (hg : g < B) : Row w' g t cs := (hb.block g hg).trans h
theorem Row.there {w : World} {g : Nat} {t : TypeId} {cs : List Value} (h : Row w g t cs) (o n : Nat) (hn : o + n ≤ cs.length) : w.there g o n := fun j hj => ⟨by rw [h.cell, List.getElem?_eq_getElem (by omega)]; rfl, h.frozen _⟩
theorem Row.range {w : World} {g : Nat} {t : TypeId} {cs ds es : List Value} {o : Nat} (h : Row w g t cs) (hc : cs.drop o = ds ++ es) : w.rangeAt g o ds := by
  intro j v hv
  rw [h.cell]
  have h1 : (cs.drop o)[j]? = some v := by rw [hc, List.getElem?_append_left (List.getElem?_eq_some_iff.1 hv).1]; exact hv
  rwa [List.getElem?_drop] at h1
theorem splice_cons {α : Type} (cs : List α) (o : Nat) (v : α) (r : List α) (h : o < cs.length) : splice (cs.set o v) (o + 1) r = splice cs o (v :: r) := by
  unfold splice
  rw [List.take_set, List.take_succ_eq_append_getElem h, List.set_append_right _ _ (by simp; omega), List.drop_set]
  have e : o - (cs.take o).length = 0 := by simp; omega
  rw [e]
  simp only [List.set_cons_zero, List.length_cons, List.append_assoc, List.cons_append, List.nil_append]
  rw [if_pos (by omega), Nat.add_right_comm, Nat.add_assoc]
theorem Row.setCells {g : Nat} {t : TypeId} : ∀ (vs : List Value) (o : Nat) (w : World) (cs : List Value), Row w g t cs → o + vs.length ≤ cs.length → Row (w.setCells g o vs) g t (splice cs o vs)
  | [], o, w, cs, h, _ => by simpa [splice, World.setCells] using h
  | v :: r, o, w, cs, h, hl => by
    have := Row.setCells r (o + 1) (w.setCell ⟨g, o, none⟩ v) (cs.set o v) (h.set o v) (by simp at hl ⊢; omega)
    rw [splice_cons cs o v r (by simp at hl; omega)] at this
    exact this
theorem Turn.setCells {F : Nat → Prop} (w : World) (b o : Nat) (vs : List Value) (hF : F b) : Turn F w (w.setCells b o vs) := by
  have hkb := World.keptBut_setCells b (may := fun p => ∃ j, p = .cell b j) vs o w (fun j _ => ⟨_, rfl⟩)
  exact ⟨hkb.1, tape_setCells _ _ _ _, hkb.2.1, hkb.size, fun k _ hne => heap_setCells _ _ _ _ _ (fun e => hne (by rw [e]; exact hF))⟩
theorem size_setCells (b : Nat) : ∀ (vs : List Value) (o : Nat) (w : World), (w.setCells b o vs).heap.size = w.heap.size
  | [], _, _ => rfl
  | v :: r, o, w => (size_setCells b r (o + 1) (w.setCell ⟨b, o, none⟩ v)).trans (by simp [World.setCell])
theorem splice_map (cs vs : List UInt8) (o : Nat) : splice (cs.map bv) o (vs.map bv) = (splice cs o vs).map bv := by simp [splice]
theorem splice_length {α : Type} (cs vs : List α) (o : Nat) (h : o + vs.length ≤ cs.length) : (splice cs o vs).length = cs.length := by simp [splice]; omega

theorem info47 : (Tryd.prog.info? 47).map (fun i => (i.zero, i.size)) = some (some (.agg (List.replicate 64 (Value.int .u8 0)).toArray), 64) := by kernel_rfl
theorem info_size {t : TypeId} {v : Value} {n : Nat} (h : (Tryd.prog.info? t).map (fun i => (i.zero, i.size)) = some (some v, n)) : (Tryd.prog.info? t).map (·.size) = some n := (zero_of_info h).2
theorem size47 : (Tryd.prog.info? 47).map (·.size) = some 64 := info_size info47
theorem under47 : Tryd.prog.underlying 47 = some (.array 64 5) := by kernel_rfl
theorem info47b : (Tryd.prog.info? 47).map (fun i => (i.zero, i.size, i.bytes)) = some (some (.agg (List.replicate 64 (Value.int .u8 0)).toArray), 64, 64) := by kernel_rfl
/-- A new variable of an array's type, zero. -/
theorem wl_alloc {w : World} {ops : Array Oper} {rest : List Oper} {o : Oper} {a : Act} {Q : Exit → Act → World → Prop} (hgd : o.guard = none) (t : TypeId) (ho : o.op = .alloc t) (d : Tmp) (hd : o.dst = some d)
    (cs : List Value) (n : Nat) (hz : (Tryd.prog.info? t).map (fun i => (i.zero, i.size)) = some (some (.agg cs.toArray), n))
    (h : ∀ w', Hid (Row w' w.heap.size t cs ∧ Below w.heap.size w w' ∧ w'.heap.size = w.heap.size + 1) → wpList Tryd.prog ops Q rest (a.put (some d) (.pointer (some ⟨w.heap.size, 0, none⟩))) w') :
    wpList Tryd.prog ops Q (o :: rest) a w := by
  refine wpList_plain hgd fun K hK => ?_
  rw [← hd] at h
  unfold Oper.wp execOp
  simp only [ho, Sem.run_bind, Instr.alloc, (zero_of_info hz).1, newVar, newRow, run_newObj_alloc, Sem.run_pure, Result.andThen_ok, Value.cells]
  exact hK _ _ (h _ (Lib.hid ⟨Row.new w cs t, (Below.refl _ _).alloc (Nat.le_refl _) _, by show (w.alloc _).heap.size = _; simp⟩))
/-- A value of many cells is stored into the middle of a row. -/
theorem wl_store {w : World} {ops : Array Oper} {rest : List Oper} {o : Oper} {a : Act} {Q : Exit → Act → World → Prop} (hgd : o.guard = none) (ty : TypeId) (x y : Operand) (ho : o.op = .store ty x y)
    (g off : Nat) (v : Value) (cs : List Value) (hx : a.eval x = .pointer (some ⟨g, off, none⟩)) (hy : a.eval y = v) (hv : v = .agg cs.toArray) (t : TypeId) (old : List Value) (hr : Row w g t old)
    (hi : (Tryd.prog.info? ty).map (·.size) = some cs.length) (hold : off + cs.length ≤ old.length) (h1 : ∀ v ∈ cs, v.oneCell' = true)
    (h : ∀ w', Hid (Row w' g t (splice old off cs) ∧ Turn (fun k => k = g) w w' ∧ w'.heap.size = w.heap.size) → wpList Tryd.prog ops Q rest (a.put o.dst undef) w') : wpList Tryd.prog ops Q (o :: rest) a w := by
  subst hv
  refine wpList_store_mid hgd ty x y ho g off cs.toArray hx hy (hr.there off _ (by simpa using hold)) (by simpa using hi) (all_oneCell_toArray h1) (h _ (Lib.hid ⟨?_, ?_, ?_⟩))
  · simpa using Row.setCells cs off w old hr hold
  · exact Turn.setCells w g off _ rfl
  · exact size_setCells g _ off w
/-- A value of many cells is loaded out of a row's middle. -/
theorem wl_load {w : World} {ops : Array Oper} {rest : List Oper} {o : Oper} {a : Act} {Q : Exit → Act → World → Prop} (hgd : o.guard = none) (ty : TypeId) (x : Operand) (ho : o.op = .load ty x)
    (g off : Nat) (hx : a.eval x = .pointer (some ⟨g, off, none⟩)) (cs : List Value) (d : TypeDesc) (hr : w.rangeAt g off cs) (hu : Tryd.prog.underlying ty = some d) (hd : d.isRow = true)
    (hi : (Tryd.prog.info? ty).map (·.size) = some cs.length)
    (h : ∀ v, Hid (v = Value.agg cs.toArray) → wpList Tryd.prog ops Q rest (a.put o.dst v) w) : wpList Tryd.prog ops Q (o :: rest) a w :=
  wpList_load_mid hgd ty x ho g off hx cs d hr hu hd hi (h _ (Lib.hid rfl))
end Go.Proofs.YtadhgdjgpanddaaDoor
