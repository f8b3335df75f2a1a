/- What frame.Put answers: a valid frame's bytes, else ErrFrame. -/
import Derived.Test.YtlmdafldggbiaaaDoorSeal
namespace Go.Proofs.YtlmdafldggbiaaaDoor
open Go.RowKit
open Go.Proofs.YtlmdafldggbiaaaDoor.H

/-- The listed variables: the errors of package fields, ErrFrame, the table of words. -/
structure Env (w : World) (E : Nat → Value) (te : TypeId) (pe : Value) : Prop where
  errs : F.Errz w E
  ef : w.cell? ⟨0, 0, none⟩ = some (.iface te pe)
  kt : Ktab w
  size : 20 ≤ w.heap.size
theorem Env.below {w w' : World} {E : Nat → Value} {te : TypeId} {pe : Value} (h : Env w E te pe) {B : Nat} (hB : 20 ≤ B) (hb : Below B w w') : Env w' E te pe :=
  ⟨h.errs.below hB hb, (hb.cell (p := ⟨0, 0, none⟩) (show 0 < B by omega)).trans h.ef, h.kt.below (by omega) hb, Nat.le_trans h.size hb.size⟩

theorem grown_row' {w w' : World} {g : Nat} {t : TypeId} {cs : List Value} {r : Option Nat} (h : Row w g t cs) (hg : w.grownBy w' r) (hr : r ≠ some g) : Row w' g t cs := (hg.block g h.lt (fun e => hr e.symm)).trans h
/-- A cell appended to a row of cells of our own. -/
theorem wl_cell {w : World} {ops : Array Oper} {rest : List Oper} {o : Oper} {a : Act} {Q : Exit → Act → World → Prop} (hgd : o.guard = none) (t x : Operand)
    (ho : o.op = .call { callee := .builtin .append, args := #[t, x], argTypes := #[61, 61] }) (base n : Nat) (v : Value) (cs : List F.FC) (c : F.FC) (g : Nat) (hs : a.eval t = v) (hx : a.eval x = .slice (some ⟨g, 0, none⟩) 1 1)
    (h0 : w.cell? ⟨g, 0, none⟩ = some (.int .i64 c.n)) (h1 : w.cell? ⟨g, 1, none⟩ = some (.float .f64 c.f)) (h2 : w.cell? ⟨g, 2, none⟩ = some (.string c.s))
    (hown : w.ownsRow base 60 3 v n (F.flat cs)) (hb : n + 1 ≤ 4398046511104) (hbase : base ≤ w.heap.size)
    (h : ∀ v' w', Hid (w'.ownsRow base 60 3 v' (n + 1) (F.flat (cs ++ [c])) ∧ w.grownBy w' v.ownBlock ∧ (v'.ownBlock = v.ownBlock ∨ v'.ownBlock = some w.heap.size)) → wpList Tryd.prog ops Q rest (a.put o.dst v') w') : wpList Tryd.prog ops Q (o :: rest) a w := by
  refine wpList_plain hgd fun K hK => ?_
  obtain ⟨i0, hi0, hz0, hz1, hz2⟩ := info_parts' F.cell_info
  obtain ⟨v', w', hr, hh2, hh3, _, hh5⟩ := run_append_own_at (P := Tryd.prog) w base 61 o.type 60 i0 _ 3 32 Tryd.underlying61 hi0 hz0 hz1 hz2 rfl (by omega) v n (F.flat cs) hown ⟨g, 0, none⟩ 1 1 [.int .i64 c.n, .float .f64 c.f, .string c.s] rfl
    (by
      intro j u hj
      match j with
      | 0 => simp at hj; rw [← hj]; exact h0
      | 1 => simp at hj; rw [← hj]; simpa [Addr.add] using h1
      | 2 => simp at hj; rw [← hj]; simpa [Addr.add] using h2
      | j + 3 => simp at hj)
    (by intro u hu; simp at hu; rcases hu with rfl | rfl | rfl <;> rfl) (by simp only [maxLen]; omega) (by omega) hbase
  unfold Oper.wp execOp
  simp only [ho, resolve, invoke, builtin, Sem.run_bind, Sem.run_pure, Result.andThen_ok, List.map_toArray, List.map_cons, List.map_nil, hs, hx, hr]
  exact hK _ _ (h v' w' ⟨by rw [F.flat_snoc]; exact hh2, hh3, hh5⟩)
theorem flat_at (cs : List F.FC) (k : Nat) (x : F.FC) (h : cs[k]? = some x) : (F.flat cs)[k * 3]? = some (.int .i64 x.n) ∧ (F.flat cs)[k * 3 + 1]? = some (.float .f64 x.f) ∧ (F.flat cs)[k * 3 + 2]? = some (.string x.s) := by
  induction cs generalizing k with
  | nil => simp at h
  | cons y cs ih =>
    match k with
    | 0 =>
      have e : y = x := by simpa using h
      subst e
      exact ⟨rfl, rfl, rfl⟩
    | k + 1 =>
      have h' := ih k (by simpa using h)
      have e : F.flat (y :: cs) = [.int .i64 y.n, .float .f64 y.f, .string y.s] ++ F.flat cs := rfl
      rw [e]
      refine ⟨?_, ?_, ?_⟩
      · rw [List.getElem?_append_right (by simp; omega)]
        have : (k + 1) * 3 - [Value.int .i64 y.n, .float .f64 y.f, .string y.s].length = k * 3 := by simp; omega
        rw [this]; exact h'.1
      · rw [List.getElem?_append_right (by simp; omega)]
        have : (k + 1) * 3 + 1 - [Value.int .i64 y.n, .float .f64 y.f, .string y.s].length = k * 3 + 1 := by simp; omega
        rw [this]; exact h'.2.1
      · rw [List.getElem?_append_right (by simp; omega)]
        have : (k + 1) * 3 + 2 - [Value.int .i64 y.n, .float .f64 y.f, .string y.s].length = k * 3 + 2 := by simp; omega
        rw [this]; exact h'.2.2
/-- A row of cells of our own, as the contracts of package fields take it. -/
theorem own_cells {w : World} {base : Nat} {v : Value} {n : Nat} {cs : List F.FC} (h : w.ownsRow base 60 3 v n (F.flat cs)) (hn : 0 < n) : ∃ g c, v = .slice (some ⟨g, 0, none⟩) n c ∧ cs.length = n ∧ n ≤ c ∧ c ≤ 9223372036854775807 ∧ base ≤ g ∧ g < w.heap.size ∧ F.Cs w w.heap.size (some ⟨g, 0, none⟩) cs := by
  have hl : cs.length = n := by
    have := h.1
    rw [F.flat_length] at this
    omega
  rcases h.2 with ⟨_, h0⟩ | ⟨g, cap, cur, rfl, hb, hg, hnc, hcm, _⟩
  · omega
  · have hgl : g < w.heap.size := by
      rcases Nat.lt_or_ge g w.heap.size with hlt | hge
      · exact hlt
      · rw [Array.getElem?_eq_none hge] at hg; cases hg
    refine ⟨g, cap, rfl, hl, hnc, hcm, hb, hgl, .inr ⟨g, 0, rfl, hgl, fun k x hk => ?_⟩⟩
    obtain ⟨a1, a2, a3⟩ := flat_at cs k x hk
    have hc := h.cells (g := g) rfl
    have e : ∀ j, (⟨g, 0, none⟩ : Addr).add j = ⟨g, j, none⟩ := fun j => by simp [Addr.add]; omega
    have b1 := hc _ _ a1
    have b2 := hc _ _ a2
    have b3 := hc _ _ a3
    rw [e] at b1 b2 b3
    simp only [Nat.zero_add]
    exact ⟨b1, b2, b3⟩
/-- The first cell's number set. -/
theorem own_first {w : World} {base g n c : Nat} {y : F.FC} {cs : List F.FC} (z : Int) (h : w.ownsRow base 60 3 (.slice (some ⟨g, 0, none⟩) n c) n (F.flat (y :: cs))) :
    (w.setCell ⟨g, 0, none⟩ (.int .i64 z)).ownsRow base 60 3 (.slice (some ⟨g, 0, none⟩) n c) n (F.flat ({ y with n := z } :: cs)) := by
  refine ⟨by have := h.1; rw [F.flat_length] at this ⊢; exact this, ?_⟩
  rcases h.2 with ⟨e, _⟩ | ⟨g', cap, cur, e, hb, hg, hnc, hcm, hsz, hx⟩
  · cases e
  · injection e with e1 _ e3
    injection e1 with e1
    injection e1 with e1 _ _
    subst e1 e3
    refine .inr ⟨g, c, cur.set! 0 (.int .i64 z), rfl, hb, ?_, hnc, hcm, by simpa using hsz, ?_⟩
    · simp only [World.setCell, Array.getElem?_modify, hg]
      simp
    · have hn : (F.flat (y :: cs)).length = n * 3 := by rw [h.1]
      have e : F.flat (y :: cs) = .int .i64 y.n :: .float .f64 y.f :: .string y.s :: F.flat cs := rfl
      have e2 : F.flat ({ y with n := z } :: cs) = .int .i64 z :: .float .f64 y.f :: .string y.s :: F.flat cs := rfl
      rw [e2]
      rw [e] at hx
      have h3 : (cur.set! 0 (Value.int .i64 z)).toList = cur.toList.set 0 (.int .i64 z) := by simp
      rw [h3, List.take_set, hx]
      rfl
theorem own_base {w : World} {base b2 : Nat} {e : TypeId} {size : Nat} {v : Value} {n : Nat} {cs : List Value} (h : w.ownsRow base e size v n cs) (hb : b2 ≤ base) : w.ownsRow b2 e size v n cs := by
  refine ⟨h.1, ?_⟩
  rcases h.2 with h0 | ⟨g, cap, cur, h1, hbg, h2⟩
  · exact .inl h0
  · exact .inr ⟨g, cap, cur, h1, Nat.le_trans hb hbg, h2⟩
theorem own_frozen {w : World} {base g n c : Nat} {e : TypeId} {size : Nat} {xs : List Value} (h : w.ownsRow base e size (.slice (some ⟨g, 0, none⟩) n c) n xs) (k : Nat) : w.frozen? ⟨g, k, none⟩ = false := by
  rcases h.2 with ⟨e, _⟩ | ⟨g', cap, cur, e, _, hg, _⟩
  · cases e
  · injection e with e1 _ _
    injection e1 with e1
    injection e1 with e1 _ _
    subst e1
    simp [World.frozen?, hg]
theorem cellF_ok (f : Fr) (w : World) (B : Nat) (h : f.ok w B) (x : Nat) : (cellF f x).ok := by
  have hb : (f.bs.length : Int) ≤ 9223372036854775807 := by have := h.cap; have := h.max; omega
  have z : F.FC.ok {} := ⟨by decide, by decide, by decide, by show (0 : Nat) ≤ _; exact Nat.zero_le _⟩
  unfold cellF
  split
  · exact ⟨z.1, z.2.1, z.2.2.1, h.who⟩
  split
  · exact ⟨z.1, z.2.1, z.2.2.1, h.name⟩
  split
  · exact ⟨z.1, z.2.1, h.weight, z.2.2.2⟩
  split
  · exact ⟨z.1, z.2.1, z.2.2.1, by show f.bs.toArray.size ≤ maxLen; have e : maxLen = 9223372036854775807 := rfl; rw [e]; simp; omega⟩
  · have he : i64ok (ext f x) := by
      unfold ext
      split
      · exact h.seq
      split
      · exact h.got
      split
      · exact h.stream
      split
      · exact h.amount
      split
      · exact h.code
      · exact ⟨by omega, hb⟩
    exact ⟨he.1, he.2, z.2.2.1, z.2.2.2⟩
theorem cellsP_ok (f : Fr) (w : World) (B : Nat) (h : f.ok w B) (t : Int) (h0 : 0 ≤ t) (h1 : t ≤ 65535) : ∀ x ∈ cellsP f t, x.ok := by
  intro x hx
  have z : F.FC.ok {} := ⟨by decide, by decide, by decide, by show (0 : Nat) ≤ _; exact Nat.zero_le _⟩
  unfold cellsP at hx
  rcases List.mem_append.1 hx with hx | hx
  · simp at hx
    rcases hx with rfl | rfl
    · exact ⟨by show _ ≤ t; omega, by show t ≤ _; omega, z.2.2.1, z.2.2.2⟩
    · exact ⟨h.kind.1, h.kind.2, z.2.2.1, z.2.2.2⟩
  · obtain ⟨y, _, rfl⟩ := List.mem_map.1 hx
    exact cellF_ok f w B h y
theorem cellsP_length (f : Fr) (t : Int) : (cellsP f t).length = 2 + (used f.kind).length := by
  unfold cellsP
  rw [List.length_append, List.length_map]
  rfl
theorem layS_length (k : Int) : (layS k).length = 2 + (used k).length := by
  unfold layS layL
  rw [List.length_append, List.length_map]
  rfl
theorem encode_len (E : Nat → Value) (s : ByteArray) (n cap : Nat) (A : Option Addr) (cs : List F.FC) (w : World) (hE : F.Errz w E) (h5 : 20 ≤ w.heap.size) (hs : s.size = n) (hn : cs.length = n) (hb : n ≤ 4398046511104)
    (hcs : F.Cs w w.heap.size A cs) (hok : ∀ x ∈ cs, x.ok) (total : Nat) (hk : F.kn s.data.toList = true) (h : F.sumS s.data.toList cs = .ok total) (ht : total ≤ 100000000000000) :
    Calls Tryd.prog 28 #[.string s, .slice A n cap] w fun e w' => ∃ A' c', e = .returned (.tuple #[.slice A' total c', .nilIface]) ∧ Hid (w'.ownsRow w.heap.size 5 1 (.slice A' total c') total ((F.encB s.data.toList cs).map bv) ∧ Below w.heap.size w w') := by
  subst hs
  have hm : s.size ≤ maxLen := by have e : maxLen = 9223372036854775807 := rfl; rw [e]; omega
  refine (F.encode_ok E s cap A cs w hE h5 hm hn hcs hok hb total hk h ht).mono fun e w' ⟨v, he, hv⟩ => ?_
  have hl := F.encB_length h
  have h1 := hv.out.1
  rw [hl] at h1
  obtain ⟨A', c', rfl, _⟩ := own_slice h1
  exact ⟨A', c', he, Lib.hid ⟨h1, hv.out.2⟩⟩
end Go.Proofs.YtlmdafldggbiaaaDoor
