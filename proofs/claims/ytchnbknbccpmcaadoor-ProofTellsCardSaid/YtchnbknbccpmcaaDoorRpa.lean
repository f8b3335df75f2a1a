/- Tools for the document's answers: bytes of a text appended to. -/
import Derived.Test.YtchnbknbccpmcaaDoorAlv
import Derived.Test.YtchnbknbccpmcaaDoorGM
import Derived.Test.YtchnbknbccpmcaaDoorGN
namespace Go.Proofs.YtchnbknbccpmcaaDoor
open Go.RowKit
open Go.Proofs.YtchnbknbccpmcaaDoor.H

set_option maxRecDepth 100000 in
/-- Bytes appended to a slice that is full: a row of our own. -/
theorem run_append_full (w : World) (B0 : Nat) (ad : Addr) (olds : List UInt8) (n : Nat) (hol : olds.length = n) (hr0 : Rd w B0 (some ad) (olds.map bv)) (B : Nat) (A : Option Addr) (m c : Nat) (bs : List UInt8) (hm : bs.length = m) (h0 : 0 < m) (hr : Rd w B A (bs.map bv))
    (hb : n + m ≤ 140737488355328) (ty : TypeId) :
    ∃ v' w', (Builtin.append_ #[22, 22] ty #[.slice (some ad) n n, .slice A m c]).run Tryd.prog w = .ok v' w' ∧ w'.ownsRow w.heap.size 5 1 v' (n + m) ((olds ++ bs).map bv) ∧ Below w.heap.size w w' := by
  obtain ⟨i0, hi0, hz0, hz1, hz2⟩ := info_parts' u8_info
  subst hm hol
  obtain ⟨ae, rfl⟩ : ∃ ae, A = some ae := by
    rcases hr with h | ⟨ae, h, _⟩
    · rw [List.map_eq_nil_iff] at h; subst h; simp at h0
    · exact ⟨ae, h⟩
  have holds : ∀ (j : Nat) (u : Value), (olds.map bv)[j]? = some u → w.cell? (ad.add j) = some u := by
    intro j u hj
    obtain ⟨ad', h1, _, h2⟩ := hr0.cell hj
    injection h1 with h1
    subst h1
    exact h2
  have hnews : ∀ (j : Nat) (u : Value), (bs.map bv)[j]? = some u → w.cell? (ae.add j) = some u := by
    intro j u hj
    obtain ⟨ad', h1, _, h2⟩ := hr.cell hj
    injection h1 with h1
    subst h1
    exact h2
  have hrun := run_append_grow (P := Tryd.prog) w 22 ty 5 i0 _ Tryd.underlying22 hi0 hz0 ad olds.length olds.length (olds.map bv) (by rw [hz1]; simp) holds ae bs.length c (bs.map bv) (by rw [hz1]; simp) hnews (by omega) (by omega) (growslice_fits (by omega) (by rw [hz2]; omega))
  have hge := grownCap_ge w (olds.length + bs.length) olds.length 5
  have hcm2 : grownCap w (olds.length + bs.length) olds.length 5 ≤ maxLen := grownCap_le_maxLen w (olds.length + bs.length) olds.length 5 (by simp only [maxLen]; omega)
  refine ⟨_, _, hrun, ⟨by simp, .inr ⟨w.heap.size, _, _, rfl, Nat.le_refl _, heap_alloc_new w.drew _, hge, hcm2, ?_, ?_⟩⟩, (Below.refl _ _).drew.alloc (Nat.le_refl _) _⟩
  · have hz1' : (Value.int IntKind.u8 0).cells.size = 1 := rfl
    simp only [Array.size_append, List.size_toArray, size_zeroCells, hz1', List.length_map]
    omega
  · simp only [Array.toList_append]
    rw [List.take_append_of_le_length (by simp), List.map_append]
    rw [List.take_of_length_le (by simp)]
theorem wl_append_full {w : World} {ops : Array Oper} {rest : List Oper} {o : Oper} {a : Act} {Q : Exit → Act → World → Prop} (hgd : o.guard = none) (t x : Operand)
    (ho : o.op = .call { callee := .builtin .append, args := #[t, x], argTypes := #[22, 22] }) (B0 : Nat) (ad : Addr) (olds : List UInt8) (n : Nat) (hs : a.eval t = .slice (some ad) n n) (hol : olds.length = n) (hr0 : Rd w B0 (some ad) (olds.map bv)) (B : Nat) (A : Option Addr) (m c : Nat) (bs : List UInt8)
    (hx : a.eval x = .slice A m c) (hm : bs.length = m) (h0 : 0 < m) (hr : Rd w B A (bs.map bv)) (hb : n + m ≤ 140737488355328)
    (h : ∀ v' w', Hid (w'.ownsRow w.heap.size 5 1 v' (n + m) ((olds ++ bs).map bv) ∧ Below w.heap.size w w') → wpList Tryd.prog ops Q rest (a.put o.dst v') w') : wpList Tryd.prog ops Q (o :: rest) a w := by
  refine wpList_plain hgd fun K hK => ?_
  obtain ⟨v', w', hr2, h2⟩ := run_append_full w B0 ad olds n hol hr0 B A m c bs hm h0 hr hb o.type
  unfold Oper.wp execOp
  simp only [ho, resolve, invoke, builtin, Sem.run_bind, Sem.run_pure, Result.andThen_ok, List.map_toArray, List.map_cons, List.map_nil, hs, hx, hr2]
  exact hK _ _ (h v' w' (Lib.hid h2))
/-- A text's bytes appended to a row of our own that holds something. -/
theorem wl_append_str {w : World} {ops : Array Oper} {rest : List Oper} {o : Oper} {a : Act} {Q : Exit → Act → World → Prop} (hgd : o.guard = none) (t x : Operand)
    (ho : o.op = .call { callee := .builtin .append, args := #[t, x], argTypes := #[22, 9] }) (base : Nat) (v : Value) (n : Nat) (bs : List UInt8) (hs : a.eval t = v) (hown : w.ownsRow base 5 1 v n (bs.map bv)) (hn : 0 < n) (s : ByteArray) (hx : a.eval x = .string s)
    (hb : n + s.size ≤ 140737488355328) (hbase : base ≤ w.heap.size)
    (h : ∀ v' w', Hid (w'.ownsRow base 5 1 v' (n + s.size) ((bs ++ s.data.toList).map bv) ∧ Below base w w') → wpList Tryd.prog ops Q rest (a.put o.dst v') w') : wpList Tryd.prog ops Q (o :: rest) a w := by
  refine wpList_plain hgd fun K hK => ?_
  obtain ⟨v', w', hr2, h2, h3, _⟩ := F.run_append_str w base v n _ hown hn s hb hbase o.type
  unfold Oper.wp execOp
  simp only [ho, resolve, invoke, builtin, Sem.run_bind, Sem.run_pure, Result.andThen_ok, List.map_toArray, List.map_cons, List.map_nil, hs, hx, hr2]
  exact hK _ _ (h v' w' (Lib.hid ⟨by rw [List.map_append]; exact h2, grown_below h3 hbase (fun g hg => (hown.lt g hg).1)⟩))
theorem tab_next {w w' : World} {g : Nat} (h : Tab w w.heap.size g) (hb : Below w.heap.size w w') : Tab w' w'.heap.size g := (h.below hb).more hb.size
theorem secret_any (A : Option Addr) (n c : Nat) (w : World) : Calls Tryd.prog 39 #[.slice A n c] w fun e w' => e = .returned (.bool (decide (1 ≤ n ∧ n ≤ 64))) ∧ w' = w := by
  go_enter Tryd.func39, Tryd.ntmps39
  by_cases k1 : (1 : Int) ≤ (n : Int)
  · by_cases k2 : (n : Int) ≤ 64
    · go_wp2_with fail
      go_ret
      exact ⟨H.ret_bool (by simp; omega), rfl⟩
    · go_wp2_with fail
      go_ret
      exact ⟨H.ret_bool (by simp; omega), rfl⟩
  · go_wp2_with fail
    go_ret
    exact ⟨H.ret_bool (by simp; omega), rfl⟩
theorem number_any (z : Int) (w : World) : Calls Tryd.prog 40 #[.int .i64 z] w fun e w' => e = .returned (.bool (decide (0 ≤ z ∧ z ≤ 1099511627776))) ∧ w' = w := by
  go_enter Tryd.func40, Tryd.ntmps40
  by_cases k1 : (0 : Int) ≤ z
  · by_cases k2 : z ≤ 1099511627776
    · go_wp2_with fail
      go_ret
      exact ⟨H.ret_bool (by simp; omega), rfl⟩
    · go_wp2_with fail
      go_ret
      exact ⟨H.ret_bool (by simp; omega), rfl⟩
  · go_wp2_with fail
    go_ret
    exact ⟨H.ret_bool (by simp; omega), rfl⟩
theorem name_any (s : ByteArray) (w : World) : Calls Tryd.prog 43 #[.string s] w fun e w' => e = .returned (.bool (decide (1 ≤ s.size ∧ s.size ≤ 16))) ∧ w' = w := by
  go_enter Tryd.func43, Tryd.ntmps43
  by_cases k1 : (1 : Int) ≤ (s.size : Int)
  · by_cases k2 : (s.size : Int) ≤ 16
    · go_wp2_with fail
      go_ret
      exact ⟨H.ret_bool (by simp; omega), rfl⟩
    · go_wp2_with fail
      go_ret
      exact ⟨H.ret_bool (by simp; omega), rfl⟩
  · go_wp2_with fail
    go_ret
    exact ⟨H.ret_bool (by simp; omega), rfl⟩
end Go.Proofs.YtchnbknbccpmcaaDoor
