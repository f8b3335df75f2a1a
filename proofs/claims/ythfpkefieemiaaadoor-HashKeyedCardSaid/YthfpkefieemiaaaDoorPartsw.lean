/- The law HashParts: how bytes are cut into parts does not matter. -/
import Derived.Test.YthfpkefieemiaaaDoorChecksw
namespace Go.Proofs.YthfpkefieemiaaaDoor
open Go.ChangeShapes Go.WideShapes Go.ChangeAt Go.WideMaps Go.WideElems Go.RowKit Go.Deep

theorem step_appendP {ops : Array Oper} {o : Oper} {a : Act} {w : World} {K : Act → World → Prop} {Q : Exit → Act → World → Prop} {E : Prop} (hgd : o.guard = none) (t x : Operand)
    (ho : o.op = .call { callee := .builtin .append, args := #[t, x], argTypes := #[22, 22] }) (base : Nat) (v : Value) (n : Nat) (xs : List Value) (hs : a.eval t = v) (hown : w.ownsRow base 25 1 v n xs)
    (ad : Addr) (m c : Nat) (cs : List Value) (hx : a.eval x = .slice (some ad) m c) (hm : cs.length = m) (hc : ∀ (j : Nat) (u : Value), cs[j]? = some u → w.cell? (ad.add j) = some u) (h1 : ∀ u ∈ cs, u.oneCell' = true)
    (hb : n + m ≤ 1000000) (hbase : base ≤ w.heap.size)
    (h : ∀ v' w', Hid (w'.ownsRow base 25 1 v' (n + m) (xs ++ cs) ∧ w.grownBy w' v.ownBlock) → K (a.put o.dst v') w') :
    if Region.wanted o (yielded ops a.tmps) = true then Oper.wp Tryd.prog o a w K Q else E := by
  have hw : Region.wanted o (yielded ops a.tmps) = true := by simp [Region.wanted, hgd]
  rw [if_pos hw]
  obtain ⟨v', w', hr2, h2, h3⟩ := run_appendP w base v n xs hown ad m c cs hm hc h1 hb hbase o.type
  unfold Oper.wp execOp
  simp only [ho, resolve, invoke, builtin, Sem.run_bind, Sem.run_pure, Result.andThen_ok, List.map_toArray, List.map_cons, List.map_nil, hs, hx, hr2]
  exact h v' w' ⟨h2, h3⟩
theorem own_emptyP (w : World) (base : Nat) (h : base ≤ w.heap.size) : (w.alloc (.cells #[] 25)).ownsRow base 25 1 (.slice (some ⟨w.heap.size, 0, none⟩) 0 0) 0 [] :=
  ⟨rfl, .inr ⟨w.heap.size, 0, #[], rfl, h, heap_alloc_last w _, Nat.le_refl _, by decide, rfl, rfl⟩⟩

/-- A number as a cell. -/
def iv (z : Int) : Value := .int .i64 z
section
variable {H : Type} {enc : TypeId × Value → H} {W : World}
/-- A slice of numbers that reads: its numbers. -/
theorem open_ints {base : Nat} {sp : Nat → Bool} {held : Bool} {fuel : Nat} {vs : List Value} {x : DataW H × List MemPlace} (h : DataW.trod enc Tryd.prog W base sp held fuel 38 vs = some x) :
    ∃ (A : Option Addr) (n cap : Nat) (zs : List Int), vs = [.slice A n cap] ∧ zs.length = n ∧ n ≤ cap ∧ cap ≤ 9223372036854775807 ∧ (Rd W W.heap.size A (zs.map iv) ∧ ∀ z ∈ zs, -9223372036854775808 ≤ z ∧ z ≤ 9223372036854775807) ∧ (n = 0 ∨ ∃ el sp, x.1 = .slice el sp ∧ el.length = n) := by
  rcases open_slice1 Tryd.underlying38 cells3 h with ⟨rfl, rfl⟩ | ⟨a, len, cap, m, n, V, D, Pl, rfl, _, hl, hm, hmm, rfl, hi⟩
  · exact ⟨none, 0, 0, [], rfl, rfl, Nat.le_refl _, by decide, ⟨.inl rfl, by simp⟩, .inl rfl⟩
  · have hlm : len ≤ m := by rw [hmm]; split <;> omega
    have hint : ∀ i, i < len → ∃ z : Int, V i = iv z ∧ -9223372036854775808 ≤ z ∧ z ≤ 9223372036854775807 := fun i hi' => by
      obtain ⟨k, e, _, wk⟩ := DataW.trod_int Tryd.underlying3 (hi i (by omega)).2
      have bd := bounds_i64 wk
      injection e with e
      exact ⟨k, e, by omega, by omega⟩
    refine ⟨some a, len, cap, (List.range len).map fun i => intOf (V i), rfl, by simp, hl, hm, ⟨?_, ?_⟩, .inr ⟨_, _, rfl, by simp⟩⟩
    · rcases Nat.eq_zero_or_pos len with h0 | h0
      · subst h0; exact .inl rfl
      · refine .inr ⟨a, rfl, lt_of_cell (a := a) (v := V 0) (by have := (hi 0 (by omega)).1; simpa [Addr.add] using this), fun j u hj => ?_⟩
        have hjl : j < len := by
          rcases Nat.lt_or_ge j len with hlt | hge
          · exact hlt
          · rw [List.getElem?_eq_none (by simp; omega)] at hj; cases hj
        simp [hjl] at hj
        subst hj
        rw [(hi j (by omega)).1]
        obtain ⟨z, hz, _⟩ := hint j hjl
        rw [hz]
        simp [iv, intOf]
    · intro z hz
      simp at hz
      obtain ⟨i, hi', rfl⟩ := hz
      obtain ⟨z, hz, h1, h2⟩ := hint i hi'
      rw [hz]
      exact ⟨h1, h2⟩
end

theorem cut_at (z : Int) (m : Nat) (hz : -9223372036854775808 ≤ z ∧ z ≤ 9223372036854775807) (hm : m ≤ 20000) : ∃ x : Nat, x ≤ m ∧ (wrap64 (wrap64 (z.tmod ((m : Int) + 1) + (m : Int)) + 1)).tmod ((m : Int) + 1) = (x : Int) := by
  have h1 : -((m : Int) + 1) < z.tmod ((m : Int) + 1) ∧ z.tmod ((m : Int) + 1) < (m : Int) + 1 := by
    have h2 := Int.tmod_lt_of_pos z (show (0 : Int) < (m : Int) + 1 by omega)
    have h3 := Int.lt_tmod_of_pos z (show (0 : Int) < (m : Int) + 1 by omega)
    omega
  generalize z.tmod ((m : Int) + 1) = y at *
  have e1 : wrap64 (wrap64 (y + (m : Int)) + 1) = y + (m : Int) + 1 := by unfold wrap64; omega
  rw [e1, Int.tmod_eq_emod_of_nonneg (by omega)]
  have h4 := Int.emod_nonneg (y + (m : Int) + 1) (show (m : Int) + 1 ≠ 0 by omega)
  have h5 := Int.emod_lt_of_pos (y + (m : Int) + 1) (show (0 : Int) < (m : Int) + 1 by omega)
  exact ⟨((y + (m : Int) + 1) % ((m : Int) + 1)).toNat, by omega, by omega⟩

theorem ownP_snoc {w0 W W1 W2 : World} {v v2 : Value} {k : Nat} {S piece : List UInt8} {A : Option Addr} {c : Nat} (hb : Below W.heap.size W W1) (hg : W1.grownBy W2 v.ownBlock)
    (hc : piece.length ≤ c) (hcm : c ≤ 9223372036854775807) (hr : Rd W w0.heap.size A (piece.map bv)) (ps : List Part) (h1 : ps.length = k) (h2 : W.ownsRow w0.heap.size 25 1 v k (ps.map Part.v)) (h3 : flat ps = S) (h4 : ∀ p ∈ ps, p.ok W w0.heap.size) (h5 : Below w0.heap.size w0 W)
    (h6 : W2.ownsRow w0.heap.size 25 1 v2 (k + 1) (ps.map Part.v ++ [.slice A piece.length c])) : OwnP w0 W2 v2 (k + 1) (S ++ piece) := by
  have hb1 : Below w0.heap.size W W1 := hb.mono h5.size
  have hbb : Below w0.heap.size W W2 := hb1.grown hg (Nat.le_trans h5.size hb.size) (fun j hj => (h2.lt j hj).1)
  refine ⟨ps ++ [⟨A, c, piece⟩], by simp [h1], ?_, ?_, ?_, h5.trans hbb⟩
  · rw [List.map_append]
    exact h6
  · unfold flat at h3 ⊢
    rw [List.flatMap_append, h3]
    simp
  · intro p hp
    rcases List.mem_append.1 hp with hp | hp
    · exact ok_below (h4 p hp) hbb
    · simp at hp
      subst hp
      exact ⟨hc, hcm, hr.below hbb⟩

theorem check_one (m d : Nat) (B : Option Addr) (bs : List UInt8) (w : World) (hK : Ktab w) (hm : bs.length = m) (hd : m ≤ d) (hdm : d ≤ 9223372036854775807) (hT : m < 1152921504606846976) (hr2 : Rd w w.heap.size B (bs.map bv)) :
    Calls Tryd.prog 14 #[.slice (some ⟨w.heap.size, 0, none⟩) 1 1] (w.alloc (.cells #[.slice B m d] 25)) fun e w' => ∃ v, e = .returned v ∧ Hid (v = .agg (((digest bs).take 4).map bv).toArray ∧ Below w.heap.size w w') := by
  have hb := below_alloc w (.cells #[.slice B m d] 25)
  have h := check_any 1 1 (some ⟨w.heap.size, 0, none⟩) _ _ (hK.below hK.1 hb) rfl (by decide) (by rw [flat_one, hm]; exact hT) (one_part w B m d bs hm hd hdm hr2)
  rw [flat_one] at h
  exact h.mono fun e w' ⟨v, he, hv⟩ => ⟨v, he, Lib.hid ⟨hv.out.1, hb.trans (hv.out.2.mono hb.size)⟩⟩

set_option maxHeartbeats 1000000 in
theorem parts_any (n c m d l e0 : Nat) (A B C : Option Addr) (key bs : List UInt8) (zs : List Int) (w : World) (hK : Ktab w) (hn : key.length = n) (hc : n ≤ c) (hcm : c ≤ 9223372036854775807) (hr : Rd w w.heap.size A (key.map bv))
    (hm : bs.length = m) (hd : m ≤ d) (hdm : d ≤ 9223372036854775807) (hr2 : Rd w w.heap.size B (bs.map bv)) (hl : zs.length = l) (hlm : l ≤ 9223372036854775807) (hr3 : Rd w w.heap.size C (zs.map iv)) (hzb : ∀ z ∈ zs, -9223372036854775808 ≤ z ∧ z ≤ 9223372036854775807) :
    Calls Tryd.prog 5 #[.slice A n c, .slice B m d, .slice C l e0] w fun e w' => e = .returned (.bool true) ∧ Below w.heap.size w w' := by
  have h0 := hK.1
  have HK := Lib.hid hK
  have HN := Lib.hid hn
  have HM := Lib.hid hm
  have HL := Lib.hid hl
  have HR := Lib.hid hr
  have HR2 := Lib.hid hr2
  have HR3 := Lib.hid (And.intro hr3 hzb)
  clear hK hn hm hr hr2 hl hr3 hzb
  go_enter Tryd.func5, Tryd.ntmps5
  go_wp2_with fail
  with_reducible refine (alive_any w HK.out).mono ?_
  rintro e w1 ⟨rfl, HB1⟩
  by_cases hbig : 20000 < m
  · go_wp2_with fail
    go_ret
    exact ⟨rfl, HB1.out⟩
  by_cases hbig2 : 100 < l
  · go_wp2_with fail
    go_ret
    exact ⟨rfl, HB1.out⟩
  by_cases hbig3 : 20000 < n
  · go_wp2_with fail
    go_ret
    exact ⟨rfl, HB1.out⟩
  have hsz1 : w.heap.size ≤ w1.heap.size := HB1.out.size
  have HOP : Shut (OwnP w (w1.alloc (.cells #[] 25)) (.slice (some ⟨w1.heap.size, 0, none⟩) 0 0) 0 (bs.take 0)) := ⟨⟨[], rfl, own_emptyP w1 w.heap.size hsz1, rfl, by simp, HB1.out.alloc hsz1 _⟩⟩
  go_wp2_with fail
  go_loopw [7, 8, 31] (fun v r i W => ∃ (k t m' c' : Nat) (A' : Option Addr), k ≤ l ∧ i = .int .i64 k ∧ r = .slice A' m' c' ∧ m' ≤ c' ∧ c' ≤ 9223372036854775807 ∧ m' ≤ 20000 ∧ Shut (OwnP w W v k (bs.take t) ∧ t + m' = m ∧ Rd W w.heap.size A' ((bs.drop t).map bv))) (fun _ _ i _ => l - (intOf i).toNat)
  case atStart => exact ⟨0, 0, m, d, B, Nat.zero_le _, rfl, rfl, hd, hdm, by omega, ⟨HOP.out, by omega, by
    obtain ⟨_, _, _, _, _, hb⟩ := HOP.out
    rw [List.drop_zero]
    exact HR2.out.below hb⟩⟩
  case round =>
    clear HOP
    obtain ⟨k, t, m', c', A', hk, rfl, rfl, hmc, hcc, hm20, HI⟩ := hrel
    obtain ⟨ps, hp1, hp2, hp3, hp4, hp5⟩ := HI.out.1
    have hszr : w.heap.size ≤ wr.heap.size := hp5.size
    by_cases hlt : k < l
    · have hk2 : k < zs.length := by rw [HL.out]; exact hlt
      obtain ⟨ad, rfl, _, hcl⟩ := (HR3.out.1.below hp5).cell (k := k) (u := iv zs[k]) (by simp [hk2])
      have hzb := HR3.out.2 zs[k] (List.getElem_mem hk2)
      generalize zs[k] = z at *
      unfold iv at hcl
      have HPS := Lib.hid (And.intro hp1 (And.intro hp2 (And.intro hp3 (And.intro hp4 hp5))))
      clear hp1 hp2 hp3 hp4 hp5
      obtain ⟨x, hx, hxe⟩ := cut_at z m' hzb hm20
      have HXE := Lib.hid hxe
      clear hxe
      go_wp2_with fail
      simp only [HXE.out]
      have HOD : Hid (wr.drew.ownsRow w.heap.size 25 1 u7 k (ps.map Part.v)) := Lib.hid HPS.out.2.1.drew
      have hxi : (0 : Int) ≤ (x : Int) := by omega
      have hxc : (x : Int) ≤ (c' : Int) := by omega
      have hxm : (x : Int) ≤ (m' : Int) := by omega
      by_cases hcx : c' = x
      · go_region_law (refine step_appendP rfl (.tmp 48) (.tmp 53) rfl w.heap.size u7 k (ps.map Part.v) rfl (HOD.out.alloc _) ⟨wr.heap.size, 0, none⟩ 1 1 [_] rfl rfl (cells_new wr.drew _ 25) (by simp [Value.oneCell']) (by omega) (by simp; omega) ?_; intro v3 w3 HA3)
        all_goals
          have HNX : Shut (OwnP w w3 v3 (k + 1) (bs.take (t + x)) ∧ t + x + (m' - x) = m ∧ Below w.heap.size wr w3) := ⟨by
            have hb1 := (below_alloc wr (.cells #[.slice A' x x] 25)).drew
            have hpl : ((bs.drop t).take x).length = x := by rw [List.length_take, List.length_drop, HM.out]; have := HI.out.2.1; omega
            have hrp : Rd wr w.heap.size A' (((bs.drop t).take x).map bv) := by rw [List.map_take]; exact HI.out.2.2.take x
            have h6 := HA3.out.1
            have h7 := ownP_snoc hb1 HA3.out.2 (by rw [hpl]; exact Nat.le_refl x) (by omega) hrp ps HPS.out.1 HPS.out.2.1 HPS.out.2.2.1 HPS.out.2.2.2.1 HPS.out.2.2.2.2 (by rw [hpl]; exact h6)
            rw [List.take_add]
            exact ⟨h7, by have := HI.out.2.1; omega, (hb1.mono HPS.out.2.2.2.2.size).grown HA3.out.2 (Nat.le_trans HPS.out.2.2.2.2.size hb1.size) (fun j hj => (HPS.out.2.1.lt j hj).1)⟩⟩
          have HRX : Shut (Rd w3 w.heap.size (if c' = x then A' else A'.map (·.add x)) ((bs.drop (t + x)).map bv)) := ⟨by
            have h8 := HI.out.2.2.drop (k := x) (cap := c') (by rw [List.length_map, List.length_drop, HM.out]; have := HI.out.2.1; omega) (by rw [List.length_map, List.length_drop, HM.out]; have := HI.out.2.1; omega)
            rw [← List.map_drop, List.drop_drop] at h8
            exact h8.below HNX.out.2.2⟩
          clear HA3 HOD
          rw [if_pos hcx] at HRX
          go_wp2_with fail
          exact ⟨⟨k + 1, t + x, m' - x, _, _, by omega, by go_num, rfl, by omega, by omega, by omega, ⟨HNX.out.1, HNX.out.2.1, HRX.out⟩⟩, by simp [intOf]; omega⟩
      · go_region_law (refine step_appendP rfl (.tmp 48) (.tmp 53) rfl w.heap.size u7 k (ps.map Part.v) rfl (HOD.out.alloc _) ⟨wr.heap.size, 0, none⟩ 1 1 [_] rfl rfl (cells_new wr.drew _ 25) (by simp [Value.oneCell']) (by omega) (by simp; omega) ?_; intro v3 w3 HA3)
        all_goals
          have HNX : Shut (OwnP w w3 v3 (k + 1) (bs.take (t + x)) ∧ t + x + (m' - x) = m ∧ Below w.heap.size wr w3) := ⟨by
            have hb1 := (below_alloc wr (.cells #[.slice A' x x] 25)).drew
            have hpl : ((bs.drop t).take x).length = x := by rw [List.length_take, List.length_drop, HM.out]; have := HI.out.2.1; omega
            have hrp : Rd wr w.heap.size A' (((bs.drop t).take x).map bv) := by rw [List.map_take]; exact HI.out.2.2.take x
            have h6 := HA3.out.1
            have h7 := ownP_snoc hb1 HA3.out.2 (by rw [hpl]; exact Nat.le_refl x) (by omega) hrp ps HPS.out.1 HPS.out.2.1 HPS.out.2.2.1 HPS.out.2.2.2.1 HPS.out.2.2.2.2 (by rw [hpl]; exact h6)
            rw [List.take_add]
            exact ⟨h7, by have := HI.out.2.1; omega, (hb1.mono HPS.out.2.2.2.2.size).grown HA3.out.2 (Nat.le_trans HPS.out.2.2.2.2.size hb1.size) (fun j hj => (HPS.out.2.1.lt j hj).1)⟩⟩
          have HRX : Shut (Rd w3 w.heap.size (if c' = x then A' else A'.map (·.add x)) ((bs.drop (t + x)).map bv)) := ⟨by
            have h8 := HI.out.2.2.drop (k := x) (cap := c') (by rw [List.length_map, List.length_drop, HM.out]; have := HI.out.2.1; omega) (by rw [List.length_map, List.length_drop, HM.out]; have := HI.out.2.1; omega)
            rw [← List.map_drop, List.drop_drop] at h8
            exact h8.below HNX.out.2.2⟩
          clear HA3 HOD
          rw [if_neg hcx] at HRX
          go_wp2_with fail
          exact ⟨⟨k + 1, t + x, m' - x, _, _, by omega, by go_num, rfl, by omega, by omega, by omega, ⟨HNX.out.1, HNX.out.2.1, HRX.out⟩⟩, by simp [intOf]; omega⟩
    · have hk9 : k = l := by omega
      have HPS := Lib.hid (And.intro hp1 (And.intro hp2 (And.intro hp3 (And.intro hp4 hp5))))
      clear hp1 hp2 hp3 hp4 hp5 hk9
      have HB2 := Lib.hid (HPS.out.2.2.2.2.alloc hszr (.cells #[.slice A' m' c'] 25))
      have hk100 : k ≤ 100 := by omega
      go_wp2_with (first
        | (refine wl_appendP rfl (.tmp 59) (.tmp 61) rfl w.heap.size u7 k (ps.map Part.v) rfl (HPS.out.2.1.alloc _) ⟨wr.heap.size, 0, none⟩ 1 1 [.slice A' m' c'] rfl rfl (cells_new wr #[.slice A' m' c'] 25) (by simp [Value.oneCell']) (by omega) HB2.out.size ?_
           intro v3 w3 HA3
           have HOW : Shut (OwnP w w3 v3 (k + 1) bs) := ⟨by
             have hpl : (bs.drop t).length = m' := by rw [List.length_drop, HM.out]; have := HI.out.2.1; omega
             have h7 := ownP_snoc (below_alloc wr (.cells #[.slice A' m' c'] 25)) HA3.out.2 (by rw [hpl]; exact hmc) hcc HI.out.2.2 ps HPS.out.1 HPS.out.2.1 HPS.out.2.2.1 HPS.out.2.2.2.1 HPS.out.2.2.2.2 (by rw [hpl]; exact HA3.out.1)
             rwa [List.take_append_drop] at h7⟩
           obtain ⟨g, cg, qs, rfl, hql, hqf, hqp⟩ := HOW.out.parts (by omega)
           have hb3 : Below w.heap.size w w3 := by obtain ⟨_, _, _, _, _, h⟩ := HOW.out; exact h
           have HQS := Lib.hid (And.intro hql (And.intro hqf hqp))
           have HB3 := Lib.hid hb3
           clear hql hqf hqp HA3 hb3))
      have hsz3 : w.heap.size ≤ w3.heap.size := HB3.out.size
      have HFT : Hid ((flat qs).length < 1152921504606846000) := Lib.hid (by rw [HQS.out.2.1, HM.out]; omega)
      with_reducible refine (digest_any (k + 1) cg _ qs w3 (HK.out.below h0 HB3.out) HQS.out.1 (by omega) (by have := HFT.out; omega) HQS.out.2.2).mono ?_
      rintro e w4 ⟨v4, rfl, HV4⟩
      obtain ⟨D, HD, _⟩ := dig_facts bs
      have h4 : v4 = .agg D.toArray := by rw [HD.out]; have := HV4.out.1; rwa [HQS.out.2.1] at this
      subst h4
      have HB4 := Lib.hid (HB3.out.trans (HV4.out.2.mono hsz3))
      have hsz4 : w.heap.size ≤ w4.heap.size := HB4.out.size
      have HQ4 := Lib.hid ((HQS.out.2.2.below HV4.out.2).more HV4.out.2.size)
      go_wp2_with fail
      with_reducible refine (digest_one m d B bs w4 (HK.out.below h0 HB4.out) HM.out hd hdm (by omega) ((HR2.out.below HB4.out).more hsz4)).mono ?_
      rintro e w5 ⟨v5, rfl, HV5⟩
      have h5 : v5 = .agg D.toArray := by rw [HD.out]; exact HV5.out.1
      subst h5
      have HB5 := Lib.hid (HB4.out.trans (HV5.out.2.mono hsz4))
      have hsz5 : w.heap.size ≤ w5.heap.size := HB5.out.size
      have HQ5 := Lib.hid ((HQ4.out.below HV5.out.2).more HV5.out.2.size)
      have heq : ∀ w' : World, (Op.equalIn 10000 27 (.agg D.toArray) (.agg D.toArray)).run Tryd.prog w' = .ok true w' := fun w' => by rw [HD.out]; exact eq_in 27 32 under27 _ (digest_length _) w'
      have hg27 := guard27
      go_wp2_with fail
      with_reducible refine (keyed_any n c (k + 1) cg A _ key qs w5 (HK.out.below h0 HB5.out) HN.out hc hcm (by omega) ((HR.out.below HB5.out).more hsz5) HQS.out.1 (by omega) HFT.out HQ5.out).mono ?_
      rintro e w6 ⟨v6, rfl, HV6⟩
      obtain ⟨E, HE, _⟩ := keyed_facts key bs
      have h6 : v6 = .agg E.toArray := by rw [HE.out]; have := HV6.out.1; rwa [HQS.out.2.1] at this
      subst h6
      have HB6 := Lib.hid (HB5.out.trans (HV6.out.2.mono hsz5))
      have hsz6 : w.heap.size ≤ w6.heap.size := HB6.out.size
      have HQ6 := Lib.hid ((HQ5.out.below HV6.out.2).more HV6.out.2.size)
      clear heq
      go_wp2_with fail
      with_reducible refine (keyed_one n c m d A B key bs w6 (HK.out.below h0 HB6.out) HN.out hc hcm (by omega) ((HR.out.below HB6.out).more hsz6) HM.out hd hdm (by omega) ((HR2.out.below HB6.out).more hsz6)).mono ?_
      rintro e w7 ⟨v7, rfl, HV7⟩
      have h7 : v7 = .agg E.toArray := by rw [HE.out]; exact HV7.out.1
      subst h7
      have HB7 := Lib.hid (HB6.out.trans (HV7.out.2.mono hsz6))
      have hsz7 : w.heap.size ≤ w7.heap.size := HB7.out.size
      have HQ7 := Lib.hid ((HQ6.out.below HV7.out.2).more HV7.out.2.size)
      have heq : ∀ w' : World, (Op.equalIn 10000 27 (.agg E.toArray) (.agg E.toArray)).run Tryd.prog w' = .ok true w' := fun w' => by rw [HE.out]; exact eq_in 27 32 under27 _ (digest_length _) w'
      go_wp2_with fail
      with_reducible refine (check_any (k + 1) cg _ qs w7 (HK.out.below h0 HB7.out) HQS.out.1 (by omega) (by have := HFT.out; omega) HQ7.out).mono ?_
      rintro e w8 ⟨v8, rfl, HV8⟩
      obtain ⟨F, HF⟩ : ∃ F, Shut (F = ((digest bs).take 4).map bv) := ⟨_, ⟨rfl⟩⟩
      have h8 : v8 = .agg F.toArray := by rw [HF.out]; have := HV8.out.1; rwa [HQS.out.2.1] at this
      subst h8
      have HB8 := Lib.hid (HB7.out.trans (HV8.out.2.mono hsz7))
      have hsz8 : w.heap.size ≤ w8.heap.size := HB8.out.size
      clear heq
      go_wp2_with fail
      with_reducible refine (check_one m d B bs w8 (HK.out.below h0 HB8.out) HM.out hd hdm (by omega) ((HR2.out.below HB8.out).more hsz8)).mono ?_
      rintro e w9 ⟨v9, rfl, HV9⟩
      have h9 : v9 = .agg F.toArray := by rw [HF.out]; exact HV9.out.1
      subst h9
      have HB9 := Lib.hid (HB8.out.trans (HV9.out.2.mono hsz8))
      have heq : ∀ w' : World, (Op.equalIn 10000 29 (.agg F.toArray) (.agg F.toArray)).run Tryd.prog w' = .ok true w' := fun w' => by rw [HF.out]; exact eq_in 29 4 under29 _ (by rw [List.length_take, digest_length]; rfl) w'
      have hg29 := guard29
      go_wp2_with fail
      go_ret
      exact ⟨rfl, HB9.out⟩
end Go.Proofs.YthfpkefieemiaaaDoor
