/- Three rows of our own side by side: bytes, frames, numbers; what is appended to one of them leaves the others. -/
import Derived.Test.YtmhfhdbaeijcfaaDoorSml
import Derived.Test.YtmhfhdbaeijcfaaDoorJon
namespace Go.Proofs.YtmhfhdbaeijcfaaDoor
open Go.RowKit
open Go.Proofs.YtmhfhdbaeijcfaaDoor.H
set_option maxRecDepth 100000 in
/-- A frame appended to a row of frames of our own, in a drawn region. -/
theorem step_frame (w : World) {ops : Array Oper} {o : Oper} {a : Act} {K : Act → World → Prop} {Q : Exit → Act → World → Prop} {E : Prop} (hgd : o.guard = none) (t x : Operand)
    (ho : o.op = .call { callee := .builtin .append, args := #[t, x], argTypes := #[62, 62] }) (z n : Nat) (v : Value) (cs : List Value) (f : Fr) (m q : Nat) (hs : a.eval t = v) (hx : a.eval x = .slice (some ⟨q, 0, none⟩) 1 1)
    (hq : Row w q 25 (f.cells m)) (hown : w.ownsRow z 25 10 v n cs) (hb : n + 1 ≤ 1000000000) (hz : z ≤ w.heap.size)
    (h : ∀ v' w', w'.ownsRow z 25 10 v' (n + 1) (cs ++ f.cells m) → w.grownBy w' v.ownBlock → (v'.ownBlock = v.ownBlock ∨ v'.ownBlock = some w.heap.size) → K (a.put o.dst v') w') :
    if Region.wanted o (yielded ops a.tmps) = true then Oper.wp Tryd.prog o a w K Q else E := by
  have hw : Region.wanted o (yielded ops a.tmps) = true := by simp [Region.wanted, hgd]
  rw [if_pos hw]
  obtain ⟨i0, hi0, hz0, hz1, hz2⟩ := info_parts' frame_info
  obtain ⟨v', w', hr, h2, h3, _, h5⟩ := run_append_own_at (P := Tryd.prog) w z 62 o.type 25 i0 _ 10 112 Tryd.underlying62 hi0 hz0 hz1 hz2 rfl (by omega) v n cs hown ⟨q, 0, none⟩ 1 1 (f.cells m) rfl
    (by
      intro j u hj
      have e : (⟨q, 0, none⟩ : Addr).add j = ⟨q, j, none⟩ := by simp [Addr.add]; omega
      rw [e, hq.cell]
      exact hj)
    (cells_ok f m) (by simp only [maxLen]; omega) (by omega) hz
  unfold Oper.wp execOp
  simp only [ho, resolve, invoke, builtin, Sem.run_bind, Sem.run_pure, Result.andThen_ok, List.map_toArray, List.map_cons, List.map_nil, hs, hx, hr]
  exact h v' w' h2 h3 h5
theorem int_info : (Tryd.prog.info? 3).map (fun i => (i.zero, i.size, i.bytes)) = some (some (.int .i64 0), 1, 8) := by kernel_rfl
set_option maxRecDepth 100000 in
/-- A number appended to a row of numbers of our own. -/
theorem wl_appI {w : World} {ops : Array Oper} {rest : List Oper} {o : Oper} {a : Act} {Q : Exit → Act → World → Prop} (hgd : o.guard = none) (t x : Operand)
    (ho : o.op = .call { callee := .builtin .append, args := #[t, x], argTypes := #[71, 71] }) (z n : Nat) (v : Value) (es : List Value) (e : Int) (q : Nat) (hs : a.eval t = v) (hx : a.eval x = .slice (some ⟨q, 0, none⟩) 1 1)
    (hq : Row w q 3 [.int .i64 e]) (hown : w.ownsRow z 3 1 v n es) (hb : n + 1 ≤ 1000000000) (hz : z ≤ w.heap.size)
    (h : ∀ v' w', Hid (w'.ownsRow z 3 1 v' (n + 1) (es ++ [.int .i64 e]) ∧ w.grownBy w' v.ownBlock ∧ (v'.ownBlock = v.ownBlock ∨ v'.ownBlock = some w.heap.size)) → wpList Tryd.prog ops Q rest (a.put o.dst v') w') : wpList Tryd.prog ops Q (o :: rest) a w := by
  refine wpList_plain hgd fun K hK => ?_
  obtain ⟨i0, hi0, hz0, hz1, hz2⟩ := info_parts' int_info
  obtain ⟨v', w', hr, h2, h3, _, h5⟩ := run_append_own_at (P := Tryd.prog) w z 71 o.type 3 i0 _ 1 8 Tryd.underlying71 hi0 hz0 hz1 hz2 rfl (by omega) v n es hown ⟨q, 0, none⟩ 1 1 [.int .i64 e] rfl
    (by
      intro j u hj
      have e : (⟨q, 0, none⟩ : Addr).add j = ⟨q, j, none⟩ := by simp [Addr.add]; omega
      rw [e, hq.cell]
      exact hj)
    (fun u hu => by simp at hu; subst hu; rfl) (by simp only [maxLen]; omega) (by omega) hz
  unfold Oper.wp execOp
  simp only [ho, resolve, invoke, builtin, Sem.run_bind, Sem.run_pure, Result.andThen_ok, List.map_toArray, List.map_cons, List.map_nil, hs, hx, hr]
  exact hK _ _ (h v' w' ⟨h2, h3, h5⟩)
/-- Two values with no block in common. -/
def Apart (v u : Value) : Prop := ∀ q, v.ownBlock = some q → u.ownBlock ≠ some q
theorem Apart.symm {v u : Value} (h : Apart v u) : Apart u v := fun q e1 e2 => h q e2 e1
theorem Apart.grow {v v' u : Value} {n : Nat} (h : Apart v u) (hv : v'.ownBlock = v.ownBlock ∨ v'.ownBlock = some n) (hu : ∀ q, u.ownBlock = some q → q < n) : Apart v' u := fun q e1 e2 => by
  rcases hv with e | e
  · exact h q (by rw [← e]; exact e1) e2
  · rw [e] at e1
    injection e1 with e1
    have := hu q e2
    omega
/-- Rows of bytes, of frames, of numbers, of our own, none older than z. -/
structure Jh (U : World) (z : Nat) (vb : Value) (nb : Nat) (xs : List Value) (vg : Value) (ng : Nat) (cs : List Value) (ve : Value) (ne : Nat) (es : List Value) : Prop where
  ob : U.ownsRow z 5 1 vb nb xs
  og : U.ownsRow z 25 10 vg ng cs
  oe : U.ownsRow z 3 1 ve ne es
  bg : Apart vb vg
  be : Apart vb ve
  ge : Apart vg ve
theorem Jh.below {U U' : World} {z nb ng ne : Nat} {vb vg ve : Value} {xs cs es : List Value} (s : Jh U z vb nb xs vg ng cs ve ne es) (hb : Below U.heap.size U U') : Jh U' z vb nb xs vg ng cs ve ne es :=
  ⟨own_kept s.ob (fun q e => hb.block q (s.ob.lt q e).2), own_kept s.og (fun q e => hb.block q (s.og.lt q e).2), own_kept s.oe (fun q e => hb.block q (s.oe.lt q e).2), s.bg, s.be, s.ge⟩
theorem Jh.appb {U U' : World} {z nb ng ne nb' : Nat} {vb vg ve vb' : Value} {xs cs es xs' : List Value} (s : Jh U z vb nb xs vg ng cs ve ne es) (ho : U'.ownsRow z 5 1 vb' nb' xs') (hg : U.grownBy U' vb.ownBlock) (hl : vb'.ownBlock = vb.ownBlock ∨ vb'.ownBlock = some U.heap.size) : Jh U' z vb' nb' xs' vg ng cs ve ne es :=
  ⟨ho, own_kept s.og (fun q e => hg.block q (s.og.lt q e).2 (fun e2 => s.bg q e2.symm e)), own_kept s.oe (fun q e => hg.block q (s.oe.lt q e).2 (fun e2 => s.be q e2.symm e)), s.bg.grow hl (fun q e => (s.og.lt q e).2), s.be.grow hl (fun q e => (s.oe.lt q e).2), s.ge⟩
theorem Jh.appg {U U' : World} {z nb ng ne ng' : Nat} {vb vg ve vg' : Value} {xs cs es cs' : List Value} (s : Jh U z vb nb xs vg ng cs ve ne es) (ho : U'.ownsRow z 25 10 vg' ng' cs') (hg : U.grownBy U' vg.ownBlock) (hl : vg'.ownBlock = vg.ownBlock ∨ vg'.ownBlock = some U.heap.size) : Jh U' z vb nb xs vg' ng' cs' ve ne es :=
  ⟨own_kept s.ob (fun q e => hg.block q (s.ob.lt q e).2 (fun e2 => s.bg q e e2.symm)), ho, own_kept s.oe (fun q e => hg.block q (s.oe.lt q e).2 (fun e2 => s.ge q e2.symm e)), (s.bg.symm.grow hl (fun q e => (s.ob.lt q e).2)).symm, s.be, s.ge.grow hl (fun q e => (s.oe.lt q e).2)⟩
theorem Jh.appe {U U' : World} {z nb ng ne ne' : Nat} {vb vg ve ve' : Value} {xs cs es es' : List Value} (s : Jh U z vb nb xs vg ng cs ve ne es) (ho : U'.ownsRow z 3 1 ve' ne' es') (hg : U.grownBy U' ve.ownBlock) (hl : ve'.ownBlock = ve.ownBlock ∨ ve'.ownBlock = some U.heap.size) : Jh U' z vb nb xs vg ng cs ve' ne' es' :=
  ⟨own_kept s.ob (fun q e => hg.block q (s.ob.lt q e).2 (fun e2 => s.be q e e2.symm)), own_kept s.og (fun q e => hg.block q (s.og.lt q e).2 (fun e2 => s.ge q e e2.symm)), ho, s.bg, (s.be.symm.grow hl (fun q e => (s.ob.lt q e).2)).symm, (s.ge.symm.grow hl (fun q e => (s.og.lt q e).2)).symm⟩
/-- Where the frames end. -/
def endsV (gs : List Fr) : List Value := (List.range gs.length).map fun k => .int .i64 (bytesOf (gs.take (k + 1)) : Int)
theorem endsV_snoc (gs : List Fr) (f : Fr) : endsV (gs ++ [f]) = endsV gs ++ [.int .i64 (bytesOf (gs ++ [f]) : Int)] := by
  unfold endsV
  rw [List.length_append, List.length_singleton, List.range_succ, List.map_append]
  congr 1
  · refine List.map_congr_left fun k hk => ?_
    have : k < gs.length := by simpa using hk
    rw [List.take_append_of_le_length (by omega)]
  · simp [List.take_of_length_le]
theorem endsV_at (gs : List Fr) (k : Nat) (h : k < gs.length) : (endsV gs)[k]? = some (.int .i64 (bytesOf (gs.take (k + 1)) : Int)) := by simp [endsV, h]
/-- Where the frames begin. -/
def startsV (gs : List Fr) : List Value := (List.range gs.length).map fun k => .int .i64 (bytesOf (gs.take k) : Int)
theorem startsV_snoc (gs : List Fr) (f : Fr) : startsV (gs ++ [f]) = startsV gs ++ [.int .i64 (bytesOf gs : Int)] := by
  unfold startsV
  rw [List.length_append, List.length_singleton, List.range_succ, List.map_append]
  congr 1
  · refine List.map_congr_left fun k hk => ?_
    have : k < gs.length := by simpa using hk
    rw [List.take_append_of_le_length (by omega)]
  · simp []
theorem startsV_at (gs : List Fr) (k : Nat) (h : k < gs.length) : (startsV gs)[k]? = some (.int .i64 (bytesOf (gs.take k) : Int)) := by simp [startsV, h]
theorem own_emptyF (w : World) (base : Nat) (h : base ≤ w.heap.size) : (w.alloc (.cells #[] 25)).ownsRow base 25 10 (.slice (some ⟨w.heap.size, 0, none⟩) 0 0) 0 [] :=
  ⟨rfl, .inr ⟨w.heap.size, 0, #[], rfl, h, heap_alloc_last w _, Nat.le_refl _, by decide, rfl, rfl⟩⟩
end Go.Proofs.YtmhfhdbaeijcfaaDoor
