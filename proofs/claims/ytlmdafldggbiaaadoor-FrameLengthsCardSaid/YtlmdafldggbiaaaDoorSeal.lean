/- What frame.sealed answers for bytes of our own: the bytes and their check. -/
import Derived.Test.YtlmdafldggbiaaaDoorMat
namespace Go.Proofs.YtlmdafldggbiaaaDoor
open Go.RowKit
open Go.Proofs.YtlmdafldggbiaaaDoor.H

set_option maxRecDepth 100000 in
/-- Bytes, wherever they lie, nil too, appended to a row of our own. -/
theorem run_append_rd (w : World) (base : Nat) (v : Value) (n : Nat) (xs : List Value) (hown : w.ownsRow base 5 1 v n xs) (B : Nat) (A : Option Addr) (m c : Nat) (bs : List UInt8) (hm : bs.length = m) (hr : Rd w B A (bs.map bv))
    (hb : n + m ≤ 140737488355328) (hbase : base ≤ w.heap.size) (ty : TypeId) :
    ∃ v' w', (Builtin.append_ #[23, 23] ty #[v, .slice A m c]).run Tryd.prog w = .ok v' w' ∧ w'.ownsRow base 5 1 v' (n + m) (xs ++ bs.map bv) ∧ w.grownBy w' v.ownBlock := by
  obtain ⟨i0, hi0, hz0, hz1, hz2⟩ := info_parts' u8_info
  subst hm
  rcases A with _ | ad
  · have hbs : bs = [] := by
      rcases hr with h | ⟨ad, h, _⟩
      · simpa using h
      · cases h
    subst hbs
    refine ⟨v, w, ?_, by simpa using hown, World.grownBy.refl _ _⟩
    rcases hown.2 with ⟨rfl, rfl⟩ | ⟨g, cap, cur, rfl, _, _, hnc, _⟩
    · simp [Builtin.append_, run_underlying Tryd.underlying23, sizeOf, typeInfo, hi0, Builtin.lenOf, Builtin.firstCells]
    · simp [Builtin.append_, run_underlying Tryd.underlying23, sizeOf, typeInfo, hi0, Builtin.lenOf, Builtin.firstCells, hnc, storeCells]
  · have hnews : ∀ (j : Nat) (u : Value), (bs.map bv)[j]? = some u → w.cell? (ad.add j) = some u := by
      intro j u hj
      obtain ⟨ad', h1, _, h2⟩ := hr.cell hj
      injection h1 with h1
      subst h1
      exact h2
    obtain ⟨v', w', hrun, h2, h3, _, _⟩ := run_append_own_at (P := Tryd.prog) w base 23 ty 5 i0 _ 1 1 Tryd.underlying23 hi0 hz0 hz1 hz2 rfl (by omega) v n xs hown ad bs.length c (bs.map bv) (by simp) hnews
      (by intro u hu; simp at hu; obtain ⟨b, _, rfl⟩ := hu; rfl) (by simp only [maxLen]; omega) (by omega) hbase
    exact ⟨v', w', hrun, h2, h3⟩
theorem wl_append {w : World} {ops : Array Oper} {rest : List Oper} {o : Oper} {a : Act} {Q : Exit → Act → World → Prop} (hgd : o.guard = none) (t x : Operand)
    (ho : o.op = .call { callee := .builtin .append, args := #[t, x], argTypes := #[23, 23] }) (base : Nat) (v : Value) (n : Nat) (xs : List Value) (hs : a.eval t = v) (hown : w.ownsRow base 5 1 v n xs) (B : Nat) (A : Option Addr) (m c : Nat) (bs : List UInt8)
    (hx : a.eval x = .slice A m c) (hm : bs.length = m) (hr : Rd w B A (bs.map bv)) (hb : n + m ≤ 140737488355328) (hbase : base ≤ w.heap.size)
    (h : ∀ v' w', Hid (w'.ownsRow base 5 1 v' (n + m) (xs ++ bs.map bv) ∧ w.grownBy w' v.ownBlock) → wpList Tryd.prog ops Q rest (a.put o.dst v') w') : wpList Tryd.prog ops Q (o :: rest) a w := by
  refine wpList_plain hgd fun K hK => ?_
  obtain ⟨v', w', hr2, h2, h3⟩ := run_append_rd w base v n xs hown B A m c bs hm hr hb hbase o.type
  unfold Oper.wp execOp
  simp only [ho, resolve, invoke, builtin, Sem.run_bind, Sem.run_pure, Result.andThen_ok, List.map_toArray, List.map_cons, List.map_nil, hs, hx, hr2]
  exact hK _ _ (h v' w' ⟨h2, h3⟩)

/-- What a value of 4 bytes needs to be stored. -/
theorem four_facts (S : List UInt8) : ∃ D, H.Shut (D = ((digest S).take 4).map bv) ∧ H.Shut ((Tryd.prog.info? 94).map (·.size) = some D.length ∧ (List.replicate 4 (Value.int .u8 0)).length = D.length ∧ D.length = 4 ∧ ∀ v ∈ D, v.oneCell' = true) := by
  refine ⟨_, ⟨rfl⟩, ⟨?_⟩⟩
  have h1 : (((digest S).take 4).map bv).length = 4 := by rw [List.length_map, List.length_take, digest_length]; rfl
  exact ⟨by rw [h1]; exact info_size info29, by rw [h1]; exact List.length_replicate, h1, fun v hv => by obtain ⟨b, _, rfl⟩ := List.mem_map.1 hv; rfl⟩

set_option maxRecDepth 100000 in
set_option maxHeartbeats 1000000 in
theorem sealed_own (base n c : Nat) (A : Option Addr) (bs : List UInt8) (w : World) (hK : Ktab w) (hn : bs.length = n) (hs : n ≤ 1000000) (hbase : base ≤ w.heap.size) (hown : w.ownsRow base 5 1 (.slice A n c) n (bs.map bv)) :
    Calls Tryd.prog 29 #[.slice A n c] w fun e w' => ∃ v, e = .returned v ∧ Hid (w'.ownsRow base 5 1 v (n + 4) ((bs ++ (digest bs).take 4).map bv) ∧ Below base w w') := by
  have h0 := hK.1
  have HK := Lib.hid hK
  have HN := Lib.hid hn
  have HO := Lib.hid hown
  obtain ⟨A', c', e', _, hc, hcm, hr, _⟩ := own_slice hown
  injection e' with e1 e2 e3
  subst e1 e3
  have HR := Lib.hid hr
  have hcm' : c ≤ 9223372036854775807 := hcm
  clear hK hn hown hr hcm e2
  go_enter Tryd.func29, Tryd.ntmps29
  go_wp2_with fail
  have HP := Lib.hid (one_part w A n c bs HN.out hc hcm' HR.out)
  have hb1 := below_alloc w (.cells #[.slice A n c] 23)
  generalize w.alloc (.cells #[.slice A n c] 23) = w1 at *
  have hz1 : w.heap.size ≤ w1.heap.size := hb1.size
  with_reducible refine (check_any 1 1 (some ⟨w.heap.size, 0, none⟩) _ w1 (HK.out.below h0 hb1) rfl (by decide) (by rw [flat_one, HN.out]; omega) HP.out).mono ?_
  rintro e w2 ⟨v2, rfl, HV2⟩
  obtain ⟨D, HD, HLD⟩ := four_facts bs
  have HVD : Hid (v2 = .agg D.toArray) := Lib.hid (by rw [HD.out]; have := HV2.out.1; rwa [flat_one] at this)
  have HB2 := Lib.hid (hb1.trans (HV2.out.2.mono hz1))
  have hz2 : w.heap.size ≤ w2.heap.size := HB2.out.size
  clear HV2 HP hb1
  have hsl := fun w' : World => run_all w' 94 4 under29 w2.heap.size 0
  go_wp2_with (first
    | (refine wl_alloc rfl 94 rfl _ _ info29 ?_
       intro w3 HA3 HB3 HZ3)
    | (refine wl_store rfl 94 (.tmp 3) (.tmp 6) rfl w2.heap.size _ D rfl HVD.out rfl 94 _ HA3.out HLD.out.1 HLD.out.2.1 HLD.out.2.2.2 ?_
       intro w4 HR4 HS4 HZ4
       have hz3 : w2.heap.size < w3.heap.size := by rw [HZ3.out]; omega
       have hz4 : w3.heap.size ≤ w4.heap.size := by rw [HZ4.out]; exact Nat.le_refl _
       have hb24 : Below w2.heap.size w2 w4 := HB3.out.trans (HS4.out.below (Nat.le_refl _) (by omega))
       have HB4 := Lib.hid (HB2.out.trans (hb24.mono hz2))
       have HO4 := Lib.hid (own_below HO.out HB4.out)
       have HR5 : Hid (Rd w4 w4.heap.size (some ⟨w2.heap.size, 0, none⟩) (((digest bs).take 4).map bv)) := Lib.hid (by rw [← HD.out]; exact HR4.out.rd _ (by omega))
       have HL4 : Hid (((digest bs).take 4).length = 4) := Lib.hid (by rw [List.length_take, digest_length]; rfl))
    | (refine wl_append rfl (.tmp 7) (.tmp 8) rfl base (.slice A n c) n (bs.map bv) rfl HO4.out w4.heap.size (some ⟨w2.heap.size, 0, none⟩) 4 4 ((digest bs).take 4) rfl HL4.out HR5.out (by omega) (by omega) ?_
       intro v5 w5 HA5))
  go_ret
  refine ⟨v5, rfl, Lib.hid ⟨by rw [List.map_append]; exact HA5.out.1, ?_⟩⟩
  exact (HB4.out.mono hbase).grown HA5.out.2 (by omega) (fun j hj => (HO4.out.lt j hj).1)
end Go.Proofs.YtlmdafldggbiaaaDoor
