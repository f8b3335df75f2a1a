/- A row of texts of our own: append, a store into it; how a cut goes on by one byte. -/
import Derived.Test.YtooplfpffmnkfaaDoorMem
namespace Go.Proofs.YtooplfpffmnkfaaDoor
open Go.RowKit

theorem sv_one (ss : List ByteArray) : ∀ u ∈ sv ss, u.oneCell' = true := by intro u hu; obtain ⟨p, _, rfl⟩ := List.mem_map.1 hu; rfl
/-- Texts, wherever they lie, nil too, appended to a row of our own. -/
theorem run_append_rd (w : World) (base : Nat) (v : Value) (n : Nat) (xs : List Value) (hown : w.ownsRow base 9 1 v n xs) (B : Nat) (A : Option Addr) (m c : Nat) (ss : List ByteArray) (hm : ss.length = m) (hr : Rd w B A (sv ss))
    (hb : n + m ≤ 8796093022208) (hbase : base ≤ w.heap.size) (ty : TypeId) :
    ∃ v' w', (Builtin.append_ #[28, 28] ty #[v, .slice A m c]).run Tryd.prog w = .ok v' w' ∧ w'.ownsRow base 9 1 v' (n + m) (xs ++ sv ss) ∧ w.grownBy w' v.ownBlock ∧
      (v'.ownBlock = v.ownBlock ∨ v'.ownBlock = some w.heap.size) := by
  obtain ⟨i0, hi0, hz0, hz1, hz2⟩ := info_parts' str_info
  subst hm
  rcases A with _ | ad
  · have hbs : ss = [] := by
      rcases hr with h | ⟨ad, h, _⟩
      · simpa [sv] using h
      · cases h
    subst hbs
    refine ⟨v, w, ?_, by simpa [sv] using hown, World.grownBy.refl _ _, .inl rfl⟩
    rcases hown.2 with ⟨rfl, rfl⟩ | ⟨g, cap, cur, rfl, _, _, hnc, _⟩
    · simp [Builtin.append_, run_underlying Tryd.underlying28, sizeOf, typeInfo, hi0, Builtin.lenOf, Builtin.firstCells]
    · simp [Builtin.append_, run_underlying Tryd.underlying28, sizeOf, typeInfo, hi0, Builtin.lenOf, Builtin.firstCells, hnc, storeCells]
  · have hnews : ∀ (j : Nat) (u : Value), (sv ss)[j]? = some u → w.cell? (ad.add j) = some u := by
      intro j u hj
      obtain ⟨ad', h1, _, h2⟩ := hr.cell hj
      injection h1 with h1
      subst h1
      exact h2
    obtain ⟨v', w', hrun, h2, h3, _, h5⟩ := run_append_own_at (P := Tryd.prog) w base 28 ty 9 i0 _ 1 16 Tryd.underlying28 hi0 hz0 hz1 hz2 rfl (by omega) v n xs hown ad ss.length c (sv ss) (by simp [sv]) hnews
      (sv_one ss) (by simp only [maxLen]; omega) (by omega) hbase
    exact ⟨v', w', hrun, h2, h3, h5⟩
theorem wl_append {w : World} {ops : Array Oper} {rest : List Oper} {o : Oper} {a : Act} {Q : Exit → Act → World → Prop} (hgd : o.guard = none) (t x : Operand)
    (ho : o.op = .call { callee := .builtin .append, args := #[t, x], argTypes := #[28, 28] }) (base : Nat) (v : Value) (n : Nat) (xs : List Value) (hs : a.eval t = v) (hown : w.ownsRow base 9 1 v n xs) (B : Nat) (A : Option Addr) (m c : Nat) (ss : List ByteArray)
    (hx : a.eval x = .slice A m c) (hm : ss.length = m) (hr : Rd w B A (sv ss)) (hb : n + m ≤ 8796093022208) (hbase : base ≤ w.heap.size)
    (h : ∀ v' w', Hid (w'.ownsRow base 9 1 v' (n + m) (xs ++ sv ss) ∧ w.grownBy w' v.ownBlock ∧ (v'.ownBlock = v.ownBlock ∨ v'.ownBlock = some w.heap.size)) → wpList Tryd.prog ops Q rest (a.put o.dst v') w') : wpList Tryd.prog ops Q (o :: rest) a w := by
  refine wpList_plain hgd fun K hK => ?_
  obtain ⟨v', w', hr2, h2, h3, h4⟩ := run_append_rd w base v n xs hown B A m c ss hm hr hb hbase o.type
  unfold Oper.wp execOp
  simp only [ho, resolve, invoke, builtin, Sem.run_bind, Sem.run_pure, Result.andThen_ok, List.map_toArray, List.map_cons, List.map_nil, hs, hx, hr2]
  exact hK _ _ (h v' w' ⟨h2, h3, h4⟩)
theorem own_new (w : World) (base : Nat) (ss : List ByteArray) (h : base ≤ w.heap.size) (hm : ss.length ≤ 9223372036854775807) : (w.alloc (.cells (sv ss).toArray 9)).ownsRow base 9 1 (.slice (some ⟨w.heap.size, 0, none⟩) ss.length ss.length) ss.length (sv ss) := by
  refine ⟨by simp [sv], .inr ⟨w.heap.size, ss.length, (sv ss).toArray, rfl, h, heap_alloc_last w _, Nat.le_refl _, hm, by simp [sv], ?_⟩⟩
  simp only [sv]
  rw [List.take_of_length_le (by simp)]
theorem own_set {w : World} {base : Nat} {e : TypeId} {q n c : Nat} {xs : List Value} (h : w.ownsRow base e 1 (.slice (some ⟨q, 0, none⟩) n c) n xs) (i : Nat) (v : Value) : (w.setCell ⟨q, i, none⟩ v).ownsRow base e 1 (.slice (some ⟨q, 0, none⟩) n c) n (xs.set i v) := by
  refine ⟨by rw [List.length_set]; exact h.1, ?_⟩
  rcases h.2 with ⟨e1, _⟩ | ⟨g, cap, cur, e1, hb, hg, hn, hc, hs, hx⟩
  · cases e1
  · have eq : g = q := by
      injection e1 with e1
      injection e1 with e1
      injection e1 with e1
      exact e1.symm
    subst eq
    refine .inr ⟨g, cap, cur.setIfInBounds i v, e1, hb, ?_, hn, hc, by simpa using hs, ?_⟩
    · simp only [World.setCell, Array.getElem?_modify, hg]
      simp
    · rw [Array.toList_setIfInBounds, ← hx, ← List.take_set]
theorem own_unfrozen {w : World} {base : Nat} {e : TypeId} {q n c : Nat} {xs : List Value} (h : w.ownsRow base e 1 (.slice (some ⟨q, 0, none⟩) n c) n xs) (i : Nat) : w.frozen? ⟨q, i, none⟩ = false := by
  rcases h.2 with ⟨e1, _⟩ | ⟨g, cap, cur, e1, _, hg, _⟩
  · cases e1
  · have eq : g = q := by
      injection e1 with e1
      injection e1 with e1
      injection e1 with e1
      exact e1.symm
    subst eq
    simp [World.frozen?, hg]
theorem own_some {w : World} {base : Nat} {e : TypeId} {v : Value} {n : Nat} {cs : List Value} (h : w.ownsRow base e 1 v n cs) (h0 : 0 < n) : ∃ g c, v = .slice (some ⟨g, 0, none⟩) n c ∧ base ≤ g ∧ g < w.heap.size ∧ n ≤ c ∧ c ≤ 9223372036854775807 ∧ ∀ (j : Nat) (u : Value), cs[j]? = some u → w.cell? ⟨g, j, none⟩ = some u := by
  have h1 := h.lt
  have hc := fun g : Nat => h.cells (g := g)
  rcases h.2 with ⟨_, h2⟩ | ⟨g, cap, cur, rfl, hbg, hg, hnc, hcm, _⟩
  · omega
  · refine ⟨g, cap, rfl, hbg, (h1 g rfl).2, hnc, hcm, fun j u hj => ?_⟩
    have := hc g rfl j u hj
    have e : (⟨g, 0, none⟩ : Addr).add j = ⟨g, j, none⟩ := by simp [Addr.add]; omega
    rwa [e] at this
/-- A row of our own, read. -/
theorem own_read {w : World} {base : Nat} {v : Value} {n : Nat} {ss : List ByteArray} (h : w.ownsRow base 9 1 v n (sv ss)) (h0 : 0 < n) : ss.length = n ∧ ∃ g c, v = .slice (some ⟨g, 0, none⟩) n c ∧ n ≤ c ∧ c ≤ 9223372036854775807 ∧ Rd w w.heap.size (some ⟨g, 0, none⟩) (sv ss) := by
  obtain ⟨g, c, e, _, hg, hn, hc, hr⟩ := own_some h h0
  refine ⟨by have := h.1; simpa [sv] using this, g, c, e, hn, hc, .inr ⟨_, rfl, hg, fun j u hj => ?_⟩⟩
  have e : (⟨g, 0, none⟩ : Addr).add j = ⟨g, j, none⟩ := by simp [Addr.add]; omega
  rw [e]; exact hr j u hj

theorem take_snoc (s : ByteArray) (k : Nat) (h : k < s.size) : s.data.toList.take (k + 1) = s.data.toList.take k ++ [s[k]] := by
  rw [List.take_succ_eq_append_getElem (by simpa using h)]; rfl
theorem cutD_snoc_dot (a : List UInt8) : cutD (a ++ [46]) = cutD a ++ [[]] := cutD_app a []
theorem cutD_snoc : ∀ (a : List UInt8) (c : UInt8), c ≠ 46 → ∀ (t : List (List UInt8)) (x : List UInt8), cutD a = t ++ [x] → cutD (a ++ [c]) = t ++ [x ++ [c]]
  | [], c, hc, t, x, h => by
    have h1 : cutD [] = [[]] := rfl
    rw [h1] at h
    have ht : t = [] := by cases t with
      | nil => rfl
      | cons y t => simp at h
    subst ht
    have hx : x = [] := by simpa using h.symm
    subst hx
    exact cutD_none [c] (by simp; exact fun e => hc e.symm)
  | b :: a, c, hc, t, x, h => by
    by_cases hb : b = 46
    · subst hb
      rw [cutD_dot] at h
      cases t with
      | nil =>
        simp at h
        exact absurd h.2 (cutD_ne a)
      | cons y t =>
        rw [List.cons_append] at h
        injection h with h1 h2
        subst h1
        rw [List.cons_append, cutD_dot, cutD_snoc a c hc t x h2]; rfl
    · obtain ⟨y, u, e⟩ := List.exists_cons_of_ne_nil (cutD_ne a)
      rw [cutD_other hb e] at h
      cases t with
      | nil =>
        simp at h
        obtain ⟨h1, h2⟩ := h
        subst h1 h2
        rw [List.cons_append, cutD_other hb (cutD_snoc a c hc [] y e)]; rfl
      | cons z t =>
        rw [List.cons_append] at h
        injection h with h1 h2
        subst h1 h2
        rw [List.cons_append, cutD_other hb (cutD_snoc a c hc (y :: t) x e)]; rfl
/-- The pieces of the first k bytes. -/
def Cutk (s : ByteArray) (k : Nat) (ss : List ByteArray) : Prop := bytesOf ss = cutD (s.data.toList.take k)
theorem cutk_zero (s : ByteArray) : Cutk s 0 [⟨#[]⟩] := rfl
theorem Cutk.ne {s : ByteArray} {k : Nat} {ss : List ByteArray} (h : Cutk s k ss) : ss ≠ [] := by
  rintro rfl
  exact cutD_ne _ h.symm
theorem Cutk.dot {s : ByteArray} {k : Nat} {ss : List ByteArray} (h : Cutk s k ss) (hk : k < s.size) (hc : s[k] = 46) : Cutk s (k + 1) (ss ++ [⟨#[]⟩]) := by
  unfold Cutk at h ⊢
  rw [take_snoc s k hk, hc, cutD_snoc_dot, ← h]
  simp [bytesOf]
theorem Cutk.other {s : ByteArray} {k : Nat} {ss : List ByteArray} (h : Cutk s k ss) (hk : k < s.size) (hc : s[k] ≠ 46) (x : ByteArray) (hx : ss[ss.length - 1]? = some x) : Cutk s (k + 1) (ss.set (ss.length - 1) (x ++ s.extract k (k + 1))) := by
  have hne := h.ne
  obtain ⟨t, y, rfl⟩ : ∃ t y, ss = t ++ [y] := ⟨ss.dropLast, ss.getLast hne, (List.dropLast_concat_getLast hne).symm⟩
  have hy : y = x := by simpa using hx
  subst hy
  unfold Cutk at h ⊢
  rw [take_snoc s k hk]
  have hb : bytesOf (t ++ [y]) = bytesOf t ++ [y.data.toList] := by simp [bytesOf]
  rw [hb] at h
  rw [cutD_snoc _ _ hc _ _ h.symm]
  have hl : (t ++ [y]).length - 1 = t.length := by simp
  rw [hl, List.set_append_right _ _ (Nat.le_refl _), Nat.sub_self]
  have he : (s.extract k (k + 1)).data.toList = [s[k]] := by
    have h1 : (s.extract k (k + 1)).data.toList = (s.data.toList.take (k + 1)).drop k := by
      rw [ByteArray.data_extract, Array.toList_extract, List.extract_eq_take_drop, List.take_drop]
      congr 2
      omega
    rw [h1, take_snoc s k hk, List.drop_append_of_le_length (by have := size_bytes s; simp; omega)]
    simp
  show bytesOf (t ++ [y ++ s.extract k (k + 1)]) = _
  unfold bytesOf
  simp only [List.map_append, List.map_cons, List.map_nil, ByteArray.data_append, Array.toList_append, he]
theorem Cutk.length_le {s : ByteArray} {k : Nat} {ss : List ByteArray} (h : Cutk s k ss) : ss.length ≤ k + 1 := by
  have h1 := congrArg List.length h
  rw [bytesOf_length, cutD_length] at h1
  have h2 := List.count_le_length (a := (46 : UInt8)) (l := s.data.toList.take k)
  have h3 := List.length_take_le k s.data.toList
  omega
theorem Cutk.size_le {s : ByteArray} {k : Nat} {ss : List ByteArray} (h : Cutk s k ss) : ∀ x ∈ ss, x.size ≤ k := by
  intro x hx
  have h1 : ∀ (L : List (List UInt8)) (x : List UInt8), x ∈ L → x.length ≤ (glue L).length := by
    intro L
    induction L with
    | nil => intro x hx; cases hx
    | cons a r ih =>
      intro x hx
      by_cases hr : r = []
      · subst hr
        simp at hx
        rw [hx]; exact Nat.le_refl _
      · rw [glue_cons a hr, List.length_append, List.length_cons]
        rcases List.mem_cons.1 hx with rfl | hx
        · omega
        · have := ih x hx; omega
  have h2 := h1 (cutD (s.data.toList.take k)) x.data.toList (by rw [← h]; exact List.mem_map.2 ⟨x, hx, rfl⟩)
  rw [glue_cutD] at h2
  have h3 := List.length_take_le k s.data.toList
  rw [size_bytes]; omega
end Go.Proofs.YtooplfpffmnkfaaDoor
