/- For the laws of layer 6: few, rows of frames that came in, rows of slices of our own. -/
import Derived.Test.YtmhfhdbaeijcfaaDoorAli
namespace Go.Proofs.YtmhfhdbaeijcfaaDoor
open Go.RowKit
open Go.Proofs.YtmhfhdbaeijcfaaDoor.H

/-- How many bytes and parts: as few counts them. -/
def countP : List Part → Nat → Bool
  | [], n => decide (n ≤ 20000)
  | p :: ps, n => if 20000 < n ∨ 20000 < p.bs.length then false else countP ps (n + (1 + p.bs.length))
theorem countP_small : ∀ (ps : List Part) (n : Nat), countP ps n = true → n + ps.length + (H.flat ps).length ≤ 20000
  | [], n, h => by simpa [countP, H.flat] using h
  | p :: ps, n, h => by
    unfold countP at h
    split at h
    · cases h
    · have ih := countP_small ps _ h
      unfold flat at ih ⊢
      simp only [List.flatMap_cons, List.length_append, List.length_cons]
      omega

set_option maxRecDepth 100000 in
set_option maxHeartbeats 400000 in
theorem few6_any (n c : Nat) (A : Option Addr) (ps : List Part) (w : World) (hn : ps.length = n) (hmax : n ≤ 9223372036854775807) (hr : Parts w w.heap.size A ps) :
    Calls Tryd.prog 29 #[.slice A n c] w fun e w' => e = .returned (.bool (countP ps 0)) ∧ w = w' := by
  have HN := Lib.hid hn
  have HR := Lib.hid hr
  clear hn hr
  obtain ⟨r, HRR⟩ : ∃ r, H.Shut (countP ps 0 = r) := ⟨_, ⟨rfl⟩⟩
  rw [HRR.out]
  go_enter Tryd.func29, Tryd.ntmps29
  go_wp2_with fail
  go_loop [3, 8] (fun v i => ∃ k t : Nat, k ≤ n ∧ t ≤ 40001 ∧ i = .int .i64 k ∧ v = .int .i64 t ∧ H.Shut (countP (ps.drop k) t = r)) (fun _ i => n - (intOf i).toNat)
  case atStart => exact ⟨0, 0, Nat.zero_le _, by omega, rfl, rfl, ⟨by rw [List.drop_zero]; exact HRR.out⟩⟩
  case round =>
    obtain ⟨k, t, hk, ht, rfl, rfl, HC⟩ := hrel
    by_cases hlt : k < n
    · have hlt' : k < ps.length := by rw [HN.out]; exact hlt
      obtain ⟨ad, rfl, _, hc⟩ := HR.out.rd.cell (k := k) (u := (ps[k]).v) (by simp [hlt'])
      have hok := HR.out.ok ps[k] (List.getElem_mem hlt')
      have hcc := HC.out
      rw [List.drop_eq_getElem_cons hlt'] at hcc
      generalize ps[k] = p at *
      obtain ⟨pa, pc, pb⟩ := p
      unfold Part.v at hc
      obtain ⟨h1, h2, _⟩ := hok
      dsimp only at *
      obtain ⟨m, HM⟩ : ∃ m, Hid (pb.length = m) := ⟨_, rfl⟩
      rw [HM.out] at hc h1
      unfold countP at hcc
      dsimp only at hcc
      rw [HM.out] at hcc
      by_cases hb1 : 20000 < t
      · rw [if_pos (.inl hb1)] at hcc
        have HF := Lib.hid hcc
        clear hcc
        go_wp2_with fail
        go_ret
        exact ⟨ret_bool HF.out, rfl⟩
      · by_cases hb2 : 20000 < m
        · rw [if_pos (.inr hb2)] at hcc
          have HF := Lib.hid hcc
          clear hcc
          go_wp2_with fail
          go_ret
          exact ⟨ret_bool HF.out, rfl⟩
        · rw [if_neg (by omega)] at hcc
          have HF := Lib.hid hcc
          clear hcc
          go_wp2_with fail
          exact ⟨⟨k + 1, t + (1 + m), by omega, by omega, by go_num, by go_num, ⟨HF.out⟩⟩, by simp [intOf]; omega⟩
    · have HF : Hid (decide (t ≤ 20000) = r) := Lib.hid (by
        have h1 := HC.out
        rw [List.drop_eq_nil_of_le (by rw [HN.out]; omega)] at h1
        exact h1)
      go_wp2_with fail
      go_ret
      refine ⟨ret_bool ?_, rfl⟩
      rw [← HF.out]
      by_cases h : t ≤ 20000
      · have h9 : (t : Int) ≤ 20000 := by omega
        simp [h, h9]
      · have h9 : ¬ (t : Int) ≤ 20000 := by omega
        simp [h, h9]
/-- A row of frames that came in. -/
def FrsAt (w : World) (B : Nat) (A : Option Addr) (gs : List Fr) : Prop := gs = [] ∨ ∃ b o, A = some ⟨b, o, none⟩ ∧ b < B ∧ ∀ (k : Nat) (f : Fr), gs[k]? = some f → f.ok w B ∧ w.rangeAt b (o + k * 10) (f.cells f.bs.length)
theorem FrsAt.below {w w' : World} {B : Nat} {A : Option Addr} {gs : List Fr} (h : FrsAt w B A gs) (hb : Below B w w') : FrsAt w' B A gs := by
  rcases h with h | ⟨b, o, h1, h2, h3⟩
  · exact .inl h
  · refine .inr ⟨b, o, h1, h2, fun k f hk => ?_⟩
    obtain ⟨a1, a2⟩ := h3 k f hk
    exact ⟨a1.below hb, fun j u hj => (hb.cell (p := ⟨b, _, none⟩) h2).trans (a2 j u hj)⟩
theorem FrsAt.at_ {w : World} {B : Nat} {A : Option Addr} {gs : List Fr} (h : FrsAt w B A gs) {k : Nat} (hk : k < gs.length) : ∃ b o, A = some ⟨b, o, none⟩ ∧ gs[k].ok w B ∧ w.rangeAt b (o + k * 10) (gs[k].cells gs[k].bs.length) := by
  rcases h with h | ⟨b, o, h1, _, h3⟩
  · subst h; simp at hk
  · exact ⟨b, o, h1, h3 k _ (List.getElem?_eq_getElem hk)⟩
/-- A frame out of a row of frames. -/
theorem wl_loadM {w : World} {ops : Array Oper} {rest : List Oper} {o : Oper} {a : Act} {Q : Exit → Act → World → Prop} (hgd : o.guard = none) (x : Operand) (ho : o.op = .load 25 x)
    (g off : Nat) (hx : a.eval x = .pointer (some ⟨g, off, none⟩)) (cs : List Value) (hr : w.rangeAt g off cs) (hi : (Tryd.prog.info? 25).map (·.size) = some cs.length)
    (h : ∀ v, Hid (v = Value.agg cs.toArray) → wpList Tryd.prog ops Q rest (a.put o.dst v) w) : wpList Tryd.prog ops Q (o :: rest) a w := by
  refine wpList_step fun K hK => ?_
  have hw : Region.wanted o (yielded ops a.tmps) = true := by simp [Region.wanted, hgd]
  rw [if_pos hw]
  exact wp_load_mid 25 x ho g off hx cs _ hr under25.choose_spec rfl hi (hK _ _ (h _ (Lib.hid rfl)))
/-- An error against itself: not unequal. -/
theorem err_neq (a : Addr) (W : World) : (binOp .neq 28 (.iface 159 (.pointer (some a))) (.iface 159 (.pointer (some a)))).run Tryd.prog W = .ok (.bool false) W := by
  obtain ⟨i, hi, hcmp⟩ := Option.map_eq_some_iff.1 compErr
  obtain ⟨j, hj, _⟩ := Option.map_eq_some_iff.1 sizeErr
  simp only [binOp]
  simp [Op.equal, Op.maxDepth, run_equalIn_iface_ptr_same W 9998 a Tryd.underlying28 Tryd.underlying159 hi hcmp hj]
theorem slice_info : (Tryd.prog.info? 23).map (fun i => (i.zero, i.size, i.bytes)) = some (some (.slice none 0 0), 1, 24) := by kernel_rfl
/-- Values that are slices. -/
def slv (vs : List Value) : Prop := ∀ v ∈ vs, ∃ A n c, v = .slice A n c
set_option maxRecDepth 100000 in
/-- Slices appended to a row of slices of our own. -/
theorem wl_appV {w : World} {ops : Array Oper} {rest : List Oper} {o : Oper} {a : Act} {Q : Exit → Act → World → Prop} (hgd : o.guard = none) (t x : Operand)
    (ho : o.op = .call { callee := .builtin .append, args := #[t, x], argTypes := #[58, 58] }) (base n m c : Nat) (v : Value) (us vs : List Value) (A : Option Addr) (hs : a.eval t = v) (hown : w.ownsRow base 23 1 v n us) (hx : a.eval x = .slice A m c) (hm : vs.length = m) (hv : slv vs) (B : Nat) (hr : Rd w B A vs) (hb : n + m ≤ 1000000) (hbase : base ≤ w.heap.size)
    (h : ∀ v' w', Hid (w'.ownsRow base 23 1 v' (n + m) (us ++ vs) ∧ w.grownBy w' v.ownBlock) → wpList Tryd.prog ops Q rest (a.put o.dst v') w') : wpList Tryd.prog ops Q (o :: rest) a w := by
  refine wpList_plain hgd fun K hK => ?_
  obtain ⟨i0, hi0, hz0, hz1, hz2⟩ := info_parts' slice_info
  have key : ∃ v' w', (Builtin.append_ #[58, 58] o.type #[v, .slice A m c]).run Tryd.prog w = .ok v' w' ∧ w'.ownsRow base 23 1 v' (n + m) (us ++ vs) ∧ w.grownBy w' v.ownBlock := by
    subst hm
    rcases A with _ | ad
    · have hvs : vs = [] := by
        rcases hr with h | ⟨ad, h, _⟩
        · exact h
        · cases h
      subst hvs
      refine ⟨v, w, ?_, by simpa using hown, World.grownBy.refl _ _⟩
      rcases hown.2 with ⟨rfl, rfl⟩ | ⟨g, cap, cur, rfl, _, _, hnc, _⟩
      · simp [Builtin.append_, run_underlying Tryd.underlying58, sizeOf, typeInfo, hi0, Builtin.lenOf, Builtin.firstCells]
      · simp [Builtin.append_, run_underlying Tryd.underlying58, sizeOf, typeInfo, hi0, Builtin.lenOf, Builtin.firstCells, hnc, storeCells]
    · obtain ⟨v', w', hrun, h2, h3, _, _⟩ := run_append_own_at (P := Tryd.prog) w base 58 o.type 23 i0 _ 1 24 Tryd.underlying58 hi0 hz0 hz1 hz2 rfl (by omega) v n us hown ad vs.length c vs (by simp)
        (fun j u hj => by
          obtain ⟨ad', h1, _, h2⟩ := hr.cell hj
          injection h1 with h1
          rw [h1]
          exact h2)
        (fun u hu => by obtain ⟨A, n, c, rfl⟩ := hv u hu; rfl) (by simp only [maxLen]; omega) (by omega) hbase
      exact ⟨v', w', hrun, h2, h3⟩
  obtain ⟨v', w', hr2, h2, h3⟩ := key
  unfold Oper.wp execOp
  simp only [ho, resolve, invoke, builtin, Sem.run_bind, Sem.run_pure, Result.andThen_ok, List.map_toArray, List.map_cons, List.map_nil, hs, hx, hr2]
  exact hK _ _ (h v' w' ⟨h2, h3⟩)
theorem own_vals {w : World} {base : Nat} {v : Value} {n : Nat} {us : List Value} (h : w.ownsRow base 23 1 v n us) : ∃ A c, v = .slice A n c ∧ us.length = n ∧ n ≤ c ∧ c ≤ 9223372036854775807 ∧ Rd w w.heap.size A us := by
  obtain ⟨A, c, h1, h2, h3, h4, h5, _⟩ := own_sliceN h
  exact ⟨A, c, h1, h2, h3, h4, h5⟩
end Go.Proofs.YtmhfhdbaeijcfaaDoor
