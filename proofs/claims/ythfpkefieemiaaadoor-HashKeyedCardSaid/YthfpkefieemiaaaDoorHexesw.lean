/- The law HashHexes: the digits of two rows of bytes are those of both. -/
import Derived.Test.YthfpkefieemiaaaDoorArgs
namespace Go.Proofs.YthfpkefieemiaaaDoor
open Go.RowKit

/-- Bytes, wherever they lie, nil too, appended to a row of our own. -/
theorem run_append_rd (w : World) (base : Nat) (v : Value) (n : Nat) (xs : List Value) (hown : w.ownsRow base 5 1 v n xs) (B : Nat) (A : Option Addr) (m c : Nat) (bs : List UInt8) (hm : bs.length = m) (hr : Rd w B A (bs.map bv))
    (hb : n + m ≤ 140737488355328) (hbase : base ≤ w.heap.size) (ty : TypeId) :
    ∃ v' w', (Builtin.append_ #[25, 25] ty #[v, .slice A m c]).run Tryd.prog w = .ok v' w' ∧ w'.ownsRow base 5 1 v' (n + m) (xs ++ bs.map bv) ∧ w.grownBy w' v.ownBlock ∧
      (v'.ownBlock = v.ownBlock ∨ v'.ownBlock = some w.heap.size) := by
  obtain ⟨i0, hi0, hz0, hz1, hz2⟩ := info_parts' u8_info
  subst hm
  rcases A with _ | ad
  · have hbs : bs = [] := by
      rcases hr with h | ⟨ad, h, _⟩
      · simpa using h
      · cases h
    subst hbs
    refine ⟨v, w, ?_, by simpa using hown, World.grownBy.refl _ _, .inl rfl⟩
    rcases hown.2 with ⟨rfl, rfl⟩ | ⟨g, cap, cur, rfl, _, _, hnc, _⟩
    · simp [Builtin.append_, run_underlying Tryd.underlying25, sizeOf, typeInfo, hi0, Builtin.lenOf, Builtin.firstCells]
    · simp [Builtin.append_, run_underlying Tryd.underlying25, sizeOf, typeInfo, hi0, Builtin.lenOf, Builtin.firstCells, hnc, storeCells]
  · have hnews : ∀ (j : Nat) (u : Value), (bs.map bv)[j]? = some u → w.cell? (ad.add j) = some u := by
      intro j u hj
      obtain ⟨ad', h1, _, h2⟩ := hr.cell hj
      injection h1 with h1
      subst h1
      exact h2
    obtain ⟨v', w', hrun, h2, h3, _, h5⟩ := run_append_own_at (P := Tryd.prog) w base 25 ty 5 i0 _ 1 1 Tryd.underlying25 hi0 hz0 hz1 hz2 rfl (by omega) v n xs hown ad bs.length c (bs.map bv) (by simp) hnews
      (by intro u hu; simp at hu; obtain ⟨b, _, rfl⟩ := hu; rfl) (by simp only [maxLen]; omega) (by omega) hbase
    exact ⟨v', w', hrun, h2, h3, h5⟩
theorem wl_append {w : World} {ops : Array Oper} {rest : List Oper} {o : Oper} {a : Act} {Q : Exit → Act → World → Prop} (hgd : o.guard = none) (t x : Operand)
    (ho : o.op = .call { callee := .builtin .append, args := #[t, x], argTypes := #[25, 25] }) (base : Nat) (v : Value) (n : Nat) (xs : List Value) (hs : a.eval t = v) (hown : w.ownsRow base 5 1 v n xs) (B : Nat) (A : Option Addr) (m c : Nat) (bs : List UInt8)
    (hx : a.eval x = .slice A m c) (hm : bs.length = m) (hr : Rd w B A (bs.map bv)) (hb : n + m ≤ 140737488355328) (hbase : base ≤ w.heap.size)
    (h : ∀ v' w', Hid (w'.ownsRow base 5 1 v' (n + m) (xs ++ bs.map bv) ∧ w.grownBy w' v.ownBlock) → wpList Tryd.prog ops Q rest (a.put o.dst v') w') : wpList Tryd.prog ops Q (o :: rest) a w := by
  refine wpList_plain hgd fun K hK => ?_
  obtain ⟨v', w', hr2, h2, h3, _⟩ := run_append_rd w base v n xs hown B A m c bs hm hr hb hbase o.type
  unfold Oper.wp execOp
  simp only [ho, resolve, invoke, builtin, Sem.run_bind, Sem.run_pure, Result.andThen_ok, List.map_toArray, List.map_cons, List.map_nil, hs, hx, hr2]
  exact hK _ _ (h v' w' ⟨h2, h3⟩)
theorem own_empty (w : World) (base : Nat) (h : base ≤ w.heap.size) : (w.alloc (.cells #[] 5)).ownsRow base 5 1 (.slice (some ⟨w.heap.size, 0, none⟩) 0 0) 0 [] :=
  ⟨rfl, .inr ⟨w.heap.size, 0, #[], rfl, h, heap_alloc_last w _, Nat.le_refl _, by decide, rfl, rfl⟩⟩

set_option maxHeartbeats 400000 in
theorem hexes_any (n c m d : Nat) (A B : Option Addr) (xs ys : List UInt8) (w : World) (hK : Ktab w) (hn : xs.length = n) (hm : ys.length = m) (hc : n ≤ 9223372036854775807) (hd : m ≤ 9223372036854775807) (hr : Rd w w.heap.size A (xs.map bv)) (hr2 : Rd w w.heap.size B (ys.map bv)) :
    Calls Tryd.prog 9 #[.slice A n c, .slice B m d] w fun e w' => e = .returned (.bool true) ∧ Below w.heap.size w w' := by
  have HK := Lib.hid hK
  have HN := Lib.hid hn
  have HM := Lib.hid hm
  have HR := Lib.hid hr
  have HR2 := Lib.hid hr2
  clear hK hn hm hr hr2
  go_enter Tryd.func9, Tryd.ntmps9
  go_wp2_with fail
  with_reducible refine (alive_any w HK.out).mono ?_
  rintro e w1 ⟨rfl, HB1⟩
  by_cases hbig : 5000 < n
  · go_wp2_with fail
    go_ret
    exact ⟨rfl, HB1.out⟩
  by_cases hbig2 : 5000 < m
  · go_wp2_with fail
    go_ret
    exact ⟨rfl, HB1.out⟩
  have hsz1 : w.heap.size ≤ w1.heap.size := HB1.out.size
  have HB2 := Lib.hid (HB1.out.alloc hsz1 (.cells #[] 5))
  go_wp2_with (first
    | (refine wl_append rfl (.tmp 16) (.tmp 17) rfl w.heap.size (.slice (some ⟨w1.heap.size, 0, none⟩) 0 0) 0 [] rfl (own_empty w1 w.heap.size hsz1) w.heap.size A n c xs rfl HN.out (HR.out.below HB2.out) (by omega) (by simp; omega) ?_
       intro v3 w3 HA3
       have HB3 := Lib.hid (HB2.out.grown HA3.out.2 (by simp; omega) (fun j hj => by have e : w1.heap.size = j := Option.some.inj hj; omega)))
    | (refine wl_append rfl (.tmp 18) (.tmp 19) rfl w.heap.size v3 (0 + n) ([] ++ xs.map bv) rfl HA3.out.1 w.heap.size B m d ys rfl HM.out (HR2.out.below HB3.out) (by omega) HB3.out.size ?_
       intro v4 w4 HA4
       have HB4 := Lib.hid (HB3.out.grown HA4.out.2 HB3.out.size (fun j hj => (HA3.out.1.lt j hj).1))))
  have h4 := HA4.out.1
  rw [Nat.zero_add, List.nil_append, ← List.map_append] at h4
  obtain ⟨A4, c4, rfl, hl4, hc4, hm4, hr4, _⟩ := own_slice h4
  have HR4 := Lib.hid hr4
  have HL4 := Lib.hid hl4
  clear h4 hr4 hl4 HA3 HA4 hm4 HB2 HB3
  with_reducible refine (hex_any (n + m) c4 A4 (xs ++ ys) w4 HL4.out (by omega) HR4.out).mono ?_
  rintro e w5 ⟨rfl, HB5⟩
  have HB5' := Lib.hid (HB4.out.trans (HB5.out.mono HB4.out.size))
  go_wp2_with fail
  with_reducible refine (hex_any n c A xs w5 HN.out (by omega) ((HR.out.below HB5'.out).more HB5'.out.size)).mono ?_
  rintro e w6 ⟨rfl, HB6⟩
  have HB6' := Lib.hid (HB5'.out.trans (HB6.out.mono HB5'.out.size))
  go_wp2_with fail
  with_reducible refine (hex_any m d B ys w6 HM.out (by omega) ((HR2.out.below HB6'.out).more HB6'.out.size)).mono ?_
  rintro e w7 ⟨rfl, HB7⟩
  have HB7' := Lib.hid (HB6'.out.trans (HB7.out.mono HB6'.out.size))
  have hhs : hexS (xs ++ ys) = hexS xs ++ hexS ys := hexS_append xs ys
  have hcat : ((⟨(hexS xs).toArray⟩ : ByteArray) ++ ⟨(hexS ys).toArray⟩).toList = hexS xs ++ hexS ys := by rw [ByteArray.toList_eq]; simp
  have hl1 : (hexS xs).length = 2 * n := by rw [hexS_length, HN.out]
  have hl2 : (hexS ys).length = 2 * m := by rw [hexS_length, HM.out]
  go_wp2_with fail
  go_ret
  refine ⟨ret_bool ?_, HB7'.out⟩
  rw [beq_iff_eq]
  omega
end Go.Proofs.YthfpkefieemiaaaDoor
