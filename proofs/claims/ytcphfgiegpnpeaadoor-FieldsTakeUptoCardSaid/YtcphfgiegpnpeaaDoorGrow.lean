/- The law FieldsGrow: with more bytes behind there are no fewer whole fields. -/
import Derived.Test.YtcphfgiegpnpeaaDoorAlive
namespace Go.Proofs.YtcphfgiegpnpeaaDoor
open Go.RowKit

theorem spanS_more {c : Nat} {bs : List UInt8} {n : Nat} (more : List UInt8) (h : spanS c bs = .ok n) : spanS c (bs ++ more) = .ok n := by
  unfold spanS at h ⊢
  split at h
  · cases h
  · rename_i hlen
    have e : (bs ++ more).take (hd c) = bs.take (hd c) := List.take_append_of_le_length (by omega)
    rw [if_neg (by rw [List.length_append]; omega), e]
    split at h
    · rename_i ht
      rw [if_pos ht]
      split at h
      · cases h
      · rw [if_neg (by rw [List.length_append]; omega)]; exact h
    · rename_i ht
      rw [if_neg ht]
      exact h
theorem someS_more (l : List UInt8) : ∀ bs more : List UInt8, (someS l bs).1 ≤ (someS l (bs ++ more)).1 := by
  induction l with
  | nil => intro bs more; simp [someS]
  | cons c l ih =>
    intro bs more
    unfold someS
    split
    · exact Nat.le_refl _
    · cases hs : spanS c.toNat bs with
      | error e => exact Nat.zero_le _
      | ok n =>
        rw [spanS_more more hs]
        have hle := (spanS_le hs).1
        simp only
        rw [List.drop_append_of_le_length hle]
        have := ih (bs.drop n) more
        omega
theorem someS_le (l : List UInt8) : ∀ bs : List UInt8, (someS l bs).1 ≤ l.length := by
  induction l with
  | nil => intro bs; simp [someS]
  | cons c l ih =>
    intro bs
    unfold someS
    split
    · exact Nat.zero_le _
    · cases hs : spanS c.toNat bs with
      | error e => exact Nat.zero_le _
      | ok n =>
        have := ih (bs.drop n)
        simp only [List.length_cons]
        omega

/-- Bytes, wherever they lie, nil too, appended to a row of our own. -/
theorem run_append_rd (w : World) (base : Nat) (v : Value) (n : Nat) (xs : List Value) (hown : w.ownsRow base 5 1 v n xs) (B : Nat) (A : Option Addr) (m c : Nat) (bs : List UInt8) (hm : bs.length = m) (hr : Rd w B A (bs.map bv))
    (hb : n + m ≤ 140737488355328) (hbase : base ≤ w.heap.size) (ty : TypeId) :
    ∃ v' w', (Builtin.append_ #[24, 24] ty #[v, .slice A m c]).run Tryd.prog w = .ok v' w' ∧ w'.ownsRow base 5 1 v' (n + m) (xs ++ bs.map bv) ∧ w.grownBy w' v.ownBlock ∧
      (v'.ownBlock = v.ownBlock ∨ v'.ownBlock = some w.heap.size) := by
  obtain ⟨i0, hi0, hz0, hz1, hz2⟩ := info_parts u8_info
  subst hm
  rcases A with _ | ad
  · have hbs : bs = [] := by
      rcases hr with h | ⟨ad, h, _⟩
      · simpa using h
      · cases h
    subst hbs
    refine ⟨v, w, ?_, by simpa using hown, World.grownBy.refl _ _, .inl rfl⟩
    rcases hown.2 with ⟨rfl, rfl⟩ | ⟨g, cap, cur, rfl, _, _, hnc, _⟩
    · simp [Builtin.append_, run_underlying Tryd.underlying24, sizeOf, typeInfo, hi0, Builtin.lenOf, Builtin.firstCells]
    · simp [Builtin.append_, run_underlying Tryd.underlying24, sizeOf, typeInfo, hi0, Builtin.lenOf, Builtin.firstCells, hnc, storeCells]
  · have hnews : ∀ (j : Nat) (u : Value), (bs.map bv)[j]? = some u → w.cell? (ad.add j) = some u := by
      intro j u hj
      obtain ⟨ad', h1, _, h2⟩ := hr.cell hj
      injection h1 with h1
      subst h1
      exact h2
    obtain ⟨v', w', hrun, h2, h3, _, h5⟩ := run_append_own_at (P := Tryd.prog) w base 24 ty 5 i0 _ 1 1 Tryd.underlying24 hi0 hz0 hz1 hz2 rfl (by omega) v n xs hown ad bs.length c (bs.map bv) (by simp) hnews
      (by intro u hu; simp at hu; obtain ⟨b, _, rfl⟩ := hu; rfl) (by simp only [maxLen]; omega) (by omega) hbase
    exact ⟨v', w', hrun, h2, h3, h5⟩

theorem wpList_append_rd (w : World) {ops : Array Oper} {rest : List Oper} {o : Oper} {a : Act} {Q : Exit → Act → World → Prop} (hgd : o.guard = none) (t x : Operand)
    (ho : o.op = .call { callee := .builtin .append, args := #[t, x], argTypes := #[24, 24] }) (base : Nat) (v : Value) (n : Nat) (xs : List Value) (hs : a.eval t = v) (hown : w.ownsRow base 5 1 v n xs) (B : Nat) (A : Option Addr) (m c : Nat) (bs : List UInt8)
    (hx : a.eval x = .slice A m c) (hm : bs.length = m) (hr : Rd w B A (bs.map bv)) (hb : n + m ≤ 140737488355328) (hbase : base ≤ w.heap.size)
    (h : ∀ v' w', w'.ownsRow base 5 1 v' (n + m) (xs ++ bs.map bv) → w.grownBy w' v.ownBlock → (v'.ownBlock = v.ownBlock ∨ v'.ownBlock = some w.heap.size) → wpList Tryd.prog ops Q rest (a.put o.dst v') w') : wpList Tryd.prog ops Q (o :: rest) a w := by
  refine wpList_plain hgd fun K hK => ?_
  obtain ⟨v', w', hr2, h2, h3, h4⟩ := run_append_rd w base v n xs hown B A m c bs hm hr hb hbase o.type
  unfold Oper.wp execOp
  simp only [ho, resolve, invoke, builtin, Sem.run_bind, Sem.run_pure, Result.andThen_ok, List.map_toArray, List.map_cons, List.map_nil, hs, hx, hr2]
  exact hK _ _ (h v' w' h2 h3 h4)

theorem own_slice {w : World} {base : Nat} {v : Value} {n : Nat} {bs : List UInt8} (h : w.ownsRow base 5 1 v n (bs.map bv)) : ∃ A c, v = .slice A n c ∧ bs.length = n ∧ n ≤ c ∧ c ≤ maxLen ∧ Rd w w.heap.size A (bs.map bv) := by
  have hl : bs.length = n := by simpa using h.1
  rcases h.2 with ⟨rfl, rfl⟩ | ⟨g, cap, cur, rfl, _, hg, hnc, hcm, _⟩
  · exact ⟨none, 0, rfl, hl, Nat.le_refl _, by decide, .inl (by simpa using hl)⟩
  · refine ⟨_, cap, rfl, hl, hnc, hcm, ?_⟩
    refine .inr ⟨⟨g, 0, none⟩, rfl, ?_, h.cells (g := g) rfl⟩
    rcases Nat.lt_or_ge g w.heap.size with hlt | hge
    · exact hlt
    · rw [Array.getElem?_eq_none hge] at hg; cases hg

theorem own_empty (w : World) (base : Nat) (h : base ≤ w.heap.size) : (w.alloc (.cells #[] 5)).ownsRow base 5 1 (.slice (some ⟨w.heap.size, 0, none⟩) 0 0) 0 [] :=
  ⟨rfl, .inr ⟨w.heap.size, 0, #[], rfl, h, heap_alloc_new w _, Nat.le_refl _, by decide, rfl, rfl⟩⟩

set_option maxHeartbeats 400000 in
theorem grow_any (E : Nat → Value) (s : ByteArray) (n cap m capm : Nat) (A M : Option Addr) (bs ms : List UInt8) (w : World) (hE : Errs w E) (h5 : 5 ≤ w.heap.size) (hs : s.size ≤ maxLen) (hn : bs.length = n) (hm : ms.length = m) (hcap : n ≤ cap) (hmax : cap ≤ maxLen)
    (hr : Rd w w.heap.size A (bs.map bv)) (hrm : Rd w w.heap.size M (ms.map bv)) (hsum : n + m ≤ 140737488355328) :
    Calls Tryd.prog 10 #[.string s, .slice A n cap, .slice M m capm] w fun e w' => e = .returned (.bool true) ∧ Below w.heap.size w w' := by
  have HE := Lib.hid hE
  have HN := Lib.hid hn
  have HM := Lib.hid hm
  have HR := Lib.hid hr
  have HRM := Lib.hid hrm
  clear hE hn hm hr hrm
  go_enter Tryd.func10, Tryd.ntmps10
  go_wp2_with fail
  with_reducible refine (alive_any E w HE.out h5).mono ?_
  rintro e w1 ⟨rfl, hb1⟩
  have HB1 := Lib.hid hb1
  clear hb1
  go_wp2_with fail
  with_reducible refine (some_any E s n cap w.heap.size A bs w1 (HE.out.below h5 HB1.out) hs HN.out (by omega) hcap (HR.out.below HB1.out)).mono ?_
  rintro e w2 ⟨rfl, hw2⟩
  have HB2 : Hid (Below w.heap.size w w2) := Lib.hid (by obtain ⟨j, rfl⟩ := hw2; exact below_drewN HB1.out j)
  clear hw2
  have HLE := Lib.hid (someS_more s.data.toList bs ms)
  have HLE2 := Lib.hid (someS_le s.data.toList (bs ++ ms))
  generalize hX1 : (someS s.data.toList bs).1 = x1 at *
  generalize hX2 : (someS s.data.toList bs).2 = x2 at *
  clear hX1 hX2
  have HBA := Lib.hid (HB2.out.alloc HB2.out.size (.cells #[] 5))
  have hwz : w.heap.size ≤ w2.heap.size := HB2.out.size
  go_wp2_with (first
    | (at_builtin
       refine wpList_append_rd _ rfl (.tmp 21) (.tmp 22) rfl w.heap.size (.slice (some ⟨w2.heap.size, 0, none⟩) 0 0) 0 [] rfl (own_empty w2 w.heap.size hwz) w.heap.size A n cap bs rfl HN.out (HR.out.below HBA.out) (by omega) (by simp; omega) ?_
       intro v1 w3 hown1 hg1 hat1
       have HB3 := Lib.hid (HBA.out.grown hg1 HBA.out.size (fun j hj => by have e : w2.heap.size = j := Option.some.inj hj; omega))
       have HO1 := Lib.hid hown1
       clear hown1 hg1 hat1)
    | (at_builtin
       refine wpList_append_rd _ rfl (.tmp 23) (.tmp 24) rfl w.heap.size v1 (0 + n) ([] ++ bs.map bv) rfl HO1.out w.heap.size M m capm ms rfl HM.out (HRM.out.below HB3.out) (by omega) HB3.out.size ?_
       intro v2 w4 hown2 hg2 hat2
       have HB4 := Lib.hid (HB3.out.grown hg2 HB3.out.size (fun j hj => (HO1.out.lt j hj).1))
       have HO2 := Lib.hid hown2
       clear hown2 hg2 hat2))
  have h2 := HO2.out
  rw [Nat.zero_add, List.nil_append, ← List.map_append] at h2
  obtain ⟨A2, c2, rfl, hl2, hc2, hm2, hr2⟩ := own_slice h2
  clear h2 HO2
  with_reducible refine (some_any E s (n + m) c2 w4.heap.size A2 (bs ++ ms) w4 (HE.out.below h5 HB4.out) hs hl2 (by omega) hc2 hr2).mono ?_
  rintro e w5 ⟨rfl, hw5⟩
  have HB5 : Hid (Below w.heap.size w w5) := Lib.hid (by obtain ⟨j, rfl⟩ := hw5; exact below_drewN HB4.out j)
  have g1 := HLE.out
  have g2 : (someS s.data.toList (bs ++ ms)).1 ≤ s.size := by simpa using HLE2.out
  clear hw5 hl2 hr2 HLE HLE2
  generalize (someS s.data.toList (bs ++ ms)).1 = y1 at *
  generalize (someS s.data.toList (bs ++ ms)).2 = y2 at *
  have g3 : decide ((x1 : Int) ≤ (y1 : Int)) = true := by simp; omega
  have g4 : decide ((y1 : Int) ≤ (s.size : Int)) = true := by simp; omega
  go_wp2_with fail
  go_ret
  exact ⟨rfl, HB5.out⟩
end Go.Proofs.YtcphfgiegpnpeaaDoor
