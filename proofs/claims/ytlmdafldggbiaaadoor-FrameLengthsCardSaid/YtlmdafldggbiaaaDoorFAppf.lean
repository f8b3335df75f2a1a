/- What fields.appendField does: it appends a field's bytes onto a slice that is the caller's own. -/
import Derived.Test.YtlmdafldggbiaaaDoorFAppn
import Derived.Lib.AppendStr
import Derived.Deep.AppendLies
namespace Go.Proofs.YtlmdafldggbiaaaDoor.F
open Go.RowKit

theorem strCells_bv (s : ByteArray) : Lib.strCells s = s.data.toList.map bv := rfl

/-- A string's bytes appended to a row of our own that holds something: where the new row lies. -/
theorem run_append_str (w : World) (base : Nat) (v : Value) (n : Nat) (xs : List Value) (hown : w.ownsRow base 5 1 v n xs) (hn : 0 < n) (s : ByteArray) (hb : n + s.size ≤ 140737488355328) (hbase : base ≤ w.heap.size) (ty : TypeId) :
    ∃ v' w', (Builtin.append_ #[23, 9] ty #[v, .string s]).run Tryd.prog w = .ok v' w' ∧ w'.ownsRow base 5 1 v' (n + s.size) (xs ++ s.data.toList.map bv) ∧ w.grownBy w' v.ownBlock ∧
      (v'.ownBlock = v.ownBlock ∨ v'.ownBlock = some w.heap.size) := by
  obtain ⟨i0, hi0, hz0, hz1, hz2⟩ := info_parts u8_info
  obtain ⟨v', w', hr, ho, hg, _⟩ := Lib.run_append_own_string (P := Tryd.prog) w base 23 9 ty 5 i0 Tryd.underlying23 Tryd.underlying9 hi0 hz0 hz1 hz2 v n xs hown s (by simp only [maxLen]; omega) hb hbase
  refine ⟨v', w', hr, ho, hg, ?_⟩
  have hxl : xs.length = n := by simpa using hown.1
  rcases hown.2 with ⟨_, h0⟩ | ⟨g, cap, cur, rfl, hbg, hgg, hnc, hcm, hcs, htake⟩
  · omega
  · by_cases hroom : n + s.size ≤ cap
    · have h2 := Lib.run_append_room_string (P := Tryd.prog) w 23 9 ty 5 i0 Tryd.underlying23 Tryd.underlying9 hi0 hz1 g n cap cur hgg s hroom (by omega)
      rw [h2] at hr
      injection hr with hv hw
      rw [← hv]
      exact .inl rfl
    · have h2 := Lib.run_append_grow_string (P := Tryd.prog) w 23 9 ty 5 i0 _ Tryd.underlying23 Tryd.underlying9 hi0 hz0 ⟨g, 0, none⟩ n cap xs (by rw [hz1]; omega) (hown.cells (g := g) rfl) s (by omega) (by omega) (growslice_fits (by omega) (by rw [hz2]; omega))
      rw [h2] at hr
      injection hr with hv hw
      rw [← hv]
      exact .inr rfl
theorem step_append_str (w : World) {ops : Array Oper} {o : Oper} {a : Act} {K : Act → World → Prop} {Q : Exit → Act → World → Prop} {E : Prop} (hgd : o.guard = none) (t x : Operand)
    (ho : o.op = .call { callee := .builtin .append, args := #[t, x], argTypes := #[23, 9] }) (base : Nat) (v : Value) (n : Nat) (xs : List Value) (s : ByteArray) (hs : a.eval t = v) (hx : a.eval x = .string s) (hown : w.ownsRow base 5 1 v n xs) (hn : 0 < n)
    (hb : n + s.size ≤ 140737488355328) (hbase : base ≤ w.heap.size)
    (h : ∀ v' w', w'.ownsRow base 5 1 v' (n + s.size) (xs ++ s.data.toList.map bv) → w.grownBy w' v.ownBlock → (v'.ownBlock = v.ownBlock ∨ v'.ownBlock = some w.heap.size) → K (a.put o.dst v') w') :
    if Region.wanted o (yielded ops a.tmps) = true then Oper.wp Tryd.prog o a w K Q else E := by
  have hw : Region.wanted o (yielded ops a.tmps) = true := by simp [Region.wanted, hgd]
  rw [if_pos hw]
  obtain ⟨v', w', hr, h2, h3, h4⟩ := run_append_str w base v n xs hown hn s hb hbase o.type
  unfold Oper.wp execOp
  simp only [ho, resolve, invoke, builtin, Sem.run_bind, Sem.run_pure, Result.andThen_ok, List.map_toArray, List.map_cons, List.map_nil, hs, hx, hr]
  exact h v' w' h2 h3 h4

/-- A field's bytes. -/
def fieldB (c : Nat) (x : FC) : List UInt8 :=
  if c = 102 then be (hd c) x.f else if isT c = true then be (hd c) x.s.size ++ x.s.data.toList else be (hd c) x.n.toNat

theorem Acc.box {w w' : World} {o : Obj} {base : Nat} {v0 v : Value} {ys : List Value} (h : Acc (w.alloc o) w' base v0 v ys) : Acc w w' base v0 v ys :=
  ⟨h.own, ⟨h.grown.os, h.grown.tape, h.grown.output, Nat.le_trans (by simp) h.grown.size, fun k hk hne => (h.grown.block k (by simp; omega) hne).trans (Below.heap_alloc w o k hk)⟩, by
    rcases h.lies with e | ⟨g, e, hg⟩
    · exact .inl e
    · exact .inr ⟨g, e, by simp at hg; omega⟩⟩

theorem Acc.ne {W w' : World} {base B : Nat} {v0 v : Value} {ys : List Value} (h : Acc W w' base v0 v ys) (hne : some B ≠ v0.ownBlock) (hB : B < W.heap.size) : some B ≠ v.ownBlock := by
  rcases h.lies with e | ⟨g, e, hg⟩
  · rw [e]; exact hne
  · rw [e]; intro h; injection h with h; omega
theorem Acc.then {w0 w w2 : World} {base : Nat} {v0 v v2 : Value} {xs ys : List Value} (h : Acc w0 w base v0 v xs) (hown : w2.ownsRow base 5 1 v2 ys.length ys) (hg : w.grownBy w2 v.ownBlock)
    (hat : v2.ownBlock = v.ownBlock ∨ v2.ownBlock = some w.heap.size) : Acc w0 w2 base v0 v2 ys := h.step (World.grownBy.refl _ _) hown hg hat
theorem Acc.undrew {w w' : World} {base : Nat} {v0 v : Value} {ys : List Value} (h : Acc w.drew w' base v0 v ys) : Acc w w' base v0 v ys := ⟨h.own, ⟨h.grown.os, h.grown.tape, h.grown.output, h.grown.size, h.grown.block⟩, h.lies⟩

theorem step_append_acc (w0 w : World) {ops : Array Oper} {o : Oper} {a : Act} {K : Act → World → Prop} {Q : Exit → Act → World → Prop} {E : Prop} (hgd : o.guard = none) (t x : Operand)
    (ho : o.op = .call { callee := .builtin .append, args := #[t, x], argTypes := #[23, 9] }) (base : Nat) (v0 : Value) (xs : List Value) (s : ByteArray) (hx : a.eval x = .string s) (HA : Hid (Acc w0 w base v0 (a.eval t) xs)) (hn : 0 < xs.length)
    (hb : xs.length + s.size ≤ 140737488355328) (hbase : base ≤ w0.heap.size)
    (h : ∀ v' w', Hid (Acc w0 w' base v0 v' (xs ++ s.data.toList.map bv)) → K (a.put o.dst v') w') :
    if Region.wanted o (yielded ops a.tmps) = true then Oper.wp Tryd.prog o a w K Q else E :=
  step_append_str w hgd t x ho base _ xs.length xs s rfl hx HA.out.own hn hb (Nat.le_trans hbase HA.out.grown.size) fun v' w' h1 h2 h3 => h v' w' (Lib.hid (HA.out.then (by rw [List.length_append, List.length_map]; exact h1) h2 h3))

set_option maxRecDepth 100000 in
set_option maxHeartbeats 400000 in
theorem appendField_any (base : Nat) (v0 : Value) (xs : List Value) (c : Nat) (x : FC) (w : World) (hown : w.ownsRow base 5 1 v0 xs.length xs) (hbase : base ≤ w.heap.size) (h0 : hd c ≠ 0) (hx : x.ok)
    (hlen : xs.length + 8 ≤ 140737488355328) (hlen2 : isT c = true → xs.length + 8 + x.s.size ≤ 140737488355328) (hneg : 0 ≤ x.n ∨ isT c = true ∨ c = 102) :
    Calls Tryd.prog 45 #[v0, .int .u8 (c : Int), .agg #[.int .i64 x.n, .float .f64 x.f, .string x.s]] w fun e w' => ∃ v, e = .returned v ∧ Hid (Acc w w' base v0 v (xs ++ (fieldB c x).map bv)) := by
  have HO := Lib.hid hown
  clear hown
  obtain ⟨xn, xf, s⟩ := x
  have hx1 : -9223372036854775808 ≤ xn := hx.1
  have hx2 : xn ≤ 9223372036854775807 := hx.2.1
  have hx3 : xf < 18446744073709551616 := hx.2.2.1
  clear hx
  have HL := Lib.hid (show isT c = true → xs.length + 8 + s.size ≤ 140737488355328 from hlen2)
  clear hlen2
  simp only at *
  have hq := hd_cases h0
  have hbt := run_bits
  generalize hS : fieldB c ⟨xn, xf, s⟩ = S
  have HS := Lib.hid hS
  clear hS
  generalize hH : hd c = h at *
  have HH := Lib.hid hH
  clear hH
  go_enter Tryd.func45, Tryd.ntmps45
  go_wp2_with fail
  refine (headSize_any _ _).mono ?_
  rintro e w' ⟨rfl, rfl⟩
  rw [HH.out]
  by_cases hf : c = 102
  · have hf' : ((c : Int) == 102) = true := by simp [hf]
    have e : S = be h xf := by rw [← HS.out]; simp [fieldB, hf]; rw [← hf, HH.out]
    subst e
    clear HS
    go_wp2_with fail
    refine (appendNumber_any base v0 xs h xf _ (HO.out.alloc _) (by simp; omega) (by omega) (by omega)).mono ?_
    rintro e w' ⟨v, rfl, HA⟩
    go_wp2_with fail
    go_ret
    exact ⟨_, rfl, Lib.hid HA.out.box⟩
  · have hf' : ((c : Int) == 102) = false := by simp; omega
    go_wp2_with fail
    refine (isText_any _ _).mono ?_
    rintro e w' ⟨rfl, rfl⟩
    cases hT : isT c
    · have HT := Lib.hid hT
      have hpos : 0 ≤ xn := by
        rcases hneg with h1 | h1 | h1
        · exact h1
        · rw [hT] at h1; cases h1
        · exact absurd h1 hf
      clear hT hneg
      obtain ⟨N, rfl⟩ := Int.eq_ofNat_of_zero_le hpos
      have hw := u64_in (a := (N : Int)) (by omega) (by omega)
      have e : S = be h N := by rw [← HS.out]; simp [fieldB, hf, HT.out, HH.out]
      subst e
      clear HS
      go_wp2_with fail
      refine (appendNumber_any base v0 xs h N _ (HO.out.alloc _) (by simp; omega) (by omega) (by omega)).mono ?_
      rintro e w' ⟨v, rfl, HA⟩
      go_wp2_with fail
      go_ret
      exact ⟨_, rfl, Lib.hid HA.out.box⟩
    · have HT := Lib.hid hT
      clear hT hneg
      have hlen' := HL.out HT.out
      have hw := u64_in (a := (s.size : Int)) (by omega) (by omega)
      have e : S = be h s.size ++ s.data.toList := by rw [← HS.out]; simp [fieldB, hf, HT.out, HH.out]
      subst e
      clear HS
      have hne : some w.heap.size ≠ v0.ownBlock := by
        intro e
        have := HO.out.lt _ e.symm
        omega
      have HOW := Lib.hid (HO.out.alloc (.cells #[.int .i64 xn, .float .f64 xf, .string s] 60))
      have hcell : (w.alloc (.cells #[.int .i64 xn, .float .f64 xf, .string s] 60)).cell? ⟨w.heap.size, 2, none⟩ = some (.string s) := by simp
      have hWs : (w.alloc (.cells #[.int .i64 xn, .float .f64 xf, .string s] 60)).heap.size = w.heap.size + 1 := by simp
      have hbx : ∀ (w' : World) (v : Value) (ys : List Value), Acc (w.alloc (.cells #[.int .i64 xn, .float .f64 xf, .string s] 60)) w' base v0 v ys → Acc w w' base v0 v ys := fun _ _ _ h => h.box
      have HBX := Lib.hid hbx
      clear hbx
      go_wp2_with fail
      generalize hW : w.alloc (.cells #[.int .i64 xn, .float .f64 xf, .string s] 60) = W at *
      clear hW
      have HWS := Lib.hid hWs
      have hWs1 : w.heap.size < W.heap.size := by rw [HWS.out]; omega
      clear hWs
      generalize hB : w.heap.size = B at *
      clear hB
      have hl2 : (xs ++ (be h s.size).map bv).length = xs.length + h := by rw [List.length_append, List.length_map, be_length]
      have HL2 := Lib.hid hl2
      clear hl2
      go_region_held3 (fun w' => w'.cell? ⟨B, 2, none⟩ = some (.string s)) (first | go_keep | exact HA2.out.grown.cell hcell hne | exact HA.out.grown.cell hcell hne)
        (first
          | (go_at_call 60; refine (appendNumber_any base v0 xs h s.size _ (by exact HOW.out) (by show base ≤ W.heap.size; omega) (by omega) (by omega)).mono ?_; rintro e w' ⟨v, rfl, HA⟩)
          | (refine step_append_acc W.drew _ ?_ (.tmp 28) (.tmp 30) ?_ base v0 (xs ++ (be h s.size).map bv) s ?_ ?_ ?_ ?_ ?_ ?_; exact rfl; exact rfl; exact rfl; exact HA; (rw [HL2.out]; omega); (rw [HL2.out]; omega); (show base ≤ W.heap.size; omega); intro v2 w2 HA2))
      have HF := Lib.hid (HBX.out _ _ _ HA2.out.undrew)
      clear HA HA2 hbt
      go_wp2_with fail
      go_ret
      refine ⟨_, rfl, Lib.hid ?_⟩
      have e1 := HF.out
      rw [List.append_assoc, ← List.map_append] at e1
      exact e1
end Go.Proofs.YtlmdafldggbiaaaDoor.F
