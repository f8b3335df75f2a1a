/- Blocks held against each other; loads behind a guard; lists of ints as arguments. -/
import Derived.Test.YtadhgdjgpanddaaDoorTwo
import Derived.ChangeKeysEq
import Derived.Laws.StructEq
namespace Go.Proofs.YtadhgdjgpanddaaDoor
open Go.ChangeShapes Go.WideShapes Go.ChangeAt Go.WideMaps Go.WideElems Go.RowKit Go.Deep

theorem guard47 : Tryd.prog.eqGuardType Tryd.prog.depth 47 = false := by kernel_rfl
theorem eq_byte (d : Nat) (b : UInt8) (w : World) : (Op.equalIn (d + 1) 5 (bv b) (bv b)).run Tryd.prog w = .ok true w := by
  simp [Op.equalIn, run_underlying Tryd.underlying5, bv]
theorem eq_items (l : List UInt8) (w : World) : ∀ is : List Nat, (∀ i ∈ is, i < l.length) → (Op.eqItems 9999 5 1 (l.map bv).toArray (l.map bv).toArray is).run Tryd.prog w = .ok true w := by
  intro is
  induction is with
  | nil => intro _; simp [Op.eqItems]
  | cons i is ih =>
    intro h
    have hi : i < l.length := h i (by simp)
    have hagg : (isAgg 5).run Tryd.prog w = .ok false w := by
      unfold isAgg
      rw [Sem.run_bind, run_underlying Tryd.underlying5 w]
      rfl
    have hp : (Go.part 5 (l.map bv).toArray (i * 1)).run Tryd.prog w = .ok (bv l[i]) w := by
      simp [Go.part, hagg, hi]
    have he : (Op.equalIn 9999 5 (bv l[i]) (bv l[i])).run Tryd.prog w = .ok true w := eq_byte 9998 _ w
    rw [Op.eqItems, Sem.run_bind, hp, Result.andThen_ok, Sem.run_bind, hp, Result.andThen_ok, Sem.run_bind, he, Result.andThen_ok]
    simpa using ih (fun j hj => h j (List.mem_cons_of_mem _ hj))
theorem eq_same (t : TypeId) (n : Nat) (hu : Tryd.prog.underlying t = some (.array n 5)) (l : List UInt8) (hl : l.length = n) (w : World) :
    (Op.equal t (.agg (l.map bv).toArray) (.agg (l.map bv).toArray)).run Tryd.prog w = .ok true w := by
  obtain ⟨i0, hi0, _⟩ := info_parts' u8_info
  have h1 := run_equalIn_array (P := Tryd.prog) w 9999 (l.map bv).toArray (l.map bv).toArray hu hi0
  rw [cells5, eq_items l w _ (fun i hi => by rw [hl]; simpa using hi)] at h1
  exact h1
/-- Two blocks of the same bytes are equal. -/
theorem wl_same {w : World} {ops : Array Oper} {rest : List Oper} {o : Oper} {a : Act} {Q : Exit → Act → World → Prop} (hw : Region.wanted o (yielded ops a.tmps) = true) (op : BinOp) (r : Bool) (hop : (op = .eql ∧ r = true) ∨ (op = .neq ∧ r = false)) (x y : Operand) (ho : o.op = .binOp op 47 x y 47)
    (v v' : Value) (hx : a.eval x = v) (hy : a.eval y = v') (l : List UInt8) (hl : l.length = 64) (hv : v = .agg (l.map bv).toArray) (hv' : v' = .agg (l.map bv).toArray)
    (h : wpList Tryd.prog ops Q rest (a.put o.dst (.bool r)) w) : wpList Tryd.prog ops Q (o :: rest) a w := by
  refine wpList_step fun K hK => ?_
  rw [if_pos hw]
  have h1 := eq_same 47 64 under47 l hl w
  have h2 := run_eqGuard_agg (P := Tryd.prog) (w := w) op 47 x y (l.map bv).toArray (l.map bv).toArray guard47
  unfold Oper.wp
  subst hv hv'
  rcases hop with ⟨rfl, rfl⟩ | ⟨rfl, rfl⟩
  · simp only [execOp, ho, hx, hy, Sem.run_bind, h2, Result.andThen_ok, binOp, h1, Sem.run_pure]
    exact hK _ _ h
  · simp only [execOp, ho, hx, hy, Sem.run_bind, h2, Result.andThen_ok, binOp, h1, Sem.run_pure, Bool.not_true]
    exact hK _ _ h
theorem wl_loadg {w : World} {ops : Array Oper} {rest : List Oper} {o : Oper} {a : Act} {Q : Exit → Act → World → Prop} (hw : Region.wanted o (yielded ops a.tmps) = true) (x : Operand) (ho : o.op = .load 47 x)
    (g off : Nat) (hx : a.eval x = .pointer (some ⟨g, off, none⟩)) (cs : List Value) (hr : w.rangeAt g off cs)
    (hi : (Tryd.prog.info? 47).map (·.size) = some cs.length)
    (h : ∀ v, Hid (v = Value.agg cs.toArray) → wpList Tryd.prog ops Q rest (a.put o.dst v) w) : wpList Tryd.prog ops Q (o :: rest) a w := by
  refine wpList_step fun K hK => ?_
  rw [if_pos hw]
  exact wp_load_mid 47 x ho g off hx cs _ hr under47 rfl hi (hK _ _ (h _ (Lib.hid rfl)))
theorem Row.all {w : World} {g : Nat} {t : TypeId} {cs : List Value} (h : Row w g t cs) : w.rangeAt g 0 cs := h.range (es := []) (by simp)

/-- A number as a cell. -/
def iv (z : Int) : Value := .int .i64 z
theorem readInts : Tryd.prog.readableRec 57 = true := by kernel_rfl
theorem rowInts : 57 < Tryd.prog.types.size := of_decide_eq_true (by kernel_rfl)
theorem cells3 : Tryd.prog.cellsOf 3 = 1 := by kernel_rfl
def Ints (W : World) (A : Option Addr) (zs : List Int) : Prop := Rd W W.heap.size A (zs.map iv) ∧ ∀ z ∈ zs, -9223372036854775808 ≤ z ∧ z ≤ 9223372036854775807
section
variable {H : Type} {enc : TypeId × Value → H} {W : World}
theorem open_ints {sp : Nat → Bool} {held : Bool} {fuel : Nat} {vs : List Value} {x : DataW H × List MemPlace} (h : DataW.trod enc Tryd.prog W 0 sp held fuel 57 vs = some x) :
    ∃ (A : Option Addr) (n cap : Nat) (zs : List Int), vs = [.slice A n cap] ∧ zs.length = n ∧ n ≤ cap ∧ cap ≤ maxLen ∧ Ints W A zs := by
  rcases open_slice1 Tryd.underlying57 cells3 h with ⟨rfl, rfl⟩ | ⟨a, len, cap, m, n, V, D, Pl, rfl, _, hl, hm, hmm, rfl, hi⟩
  · exact ⟨none, 0, 0, [], rfl, rfl, Nat.le_refl _, by decide, .inl rfl, by simp⟩
  · have hm' : len ≤ m := by rw [hmm]; split <;> omega
    have hint : ∀ i, i < len → V i = iv (intOf (V i)) ∧ -9223372036854775808 ≤ intOf (V i) ∧ intOf (V i) ≤ 9223372036854775807 := fun i hi' => by
      obtain ⟨k, e, _, wk⟩ := DataW.trod_int Tryd.underlying3 (hi i (by omega)).2
      have bd := bounds_i64 wk
      injection e with e
      rw [e]
      exact ⟨rfl, bd.1, bd.2⟩
    refine ⟨some a, len, cap, (List.range len).map fun i => intOf (V i), rfl, by simp, hl, hm, ?_, ?_⟩
    · rcases Nat.eq_zero_or_pos len with h0 | h0
      · subst h0; exact .inl rfl
      · refine .inr ⟨a, rfl, lt_of_cell (a := a) (v := V 0) (by have := (hi 0 (by omega)).1; simpa [Addr.add] using this), fun j u hj => ?_⟩
        have hjl : j < len := by
          rcases Nat.lt_or_ge j len with hlt | hge
          · exact hlt
          · rw [List.getElem?_eq_none (by simp; omega)] at hj; cases hj
        simp [hjl] at hj
        subst hj
        rw [(hi j (by omega)).1, ← (hint j hjl).1]
    · intro z hz
      obtain ⟨i, hi1, rfl⟩ := List.mem_map.1 hz
      exact (hint i (List.mem_range.1 hi1)).2
end
theorem Ints.cell {W w' : World} {A : Option Addr} {zs : List Int} (h : Ints W A zs) {k : Nat} (hk : k < zs.length) (hb : Below W.heap.size W w') : ∃ ad z, A = some ad ∧ zs[k]? = some z ∧ w'.cell? (ad.add k) = some (.int .i64 z) ∧ -9223372036854775808 ≤ z ∧ z ≤ 9223372036854775807 := by
  obtain ⟨ad, h1, _, h3⟩ := (h.1.below hb).cell (k := k) (u := iv zs[k]) (by simp [hk])
  exact ⟨ad, zs[k], h1, by simp [hk], h3, h.2 _ (List.getElem_mem hk)⟩
end Go.Proofs.YtadhgdjgpanddaaDoor
