/- What frame.sealed answers for bytes of our own: the bytes and their check. What frame.Put answers: a valid frame's bytes, else ErrFrame. The walks of frame.Put. What the listed errors' variables hold when a call begins: each a pointer of its own, none nil. The laws' alive: the chapter's examples. bytes.Equal; frame.sealed of bytes without room behind them. -/
import Derived.Test.YtmhfhdbaeijcfaaDoorGC
import Derived.Test.YtmhfhdbaeijcfaaDoorRows
import Derived.LaidEql
import Derived.Below
import Derived.ProofKit
import Derived.LaidMore
import Derived.OpenShut
import Derived.LaidLaws
import Derived.Stop.Joined
import Derived.Stop.LaidErr
import Derived.Room.Entries
namespace Go.Proofs.YtmhfhdbaeijcfaaDoor
open Go.RowKit
open Go.Proofs.YtmhfhdbaeijcfaaDoor.H

set_option maxRecDepth 100000 in
/-- Bytes, wherever they lie, nil too, appended to a row of our own. -/
theorem run_append_rd (w : World) (base : Nat) (v : Value) (n : Nat) (xs : List Value) (hown : w.ownsRow base 5 1 v n xs) (B : Nat) (A : Option Addr) (m c : Nat) (bs : List UInt8) (hm : bs.length = m) (hr : Rd w B A (bs.map bv))
    (hb : n + m ≤ 140737488355328) (hbase : base ≤ w.heap.size) (ty : TypeId) :
    ∃ v' w', (Builtin.append_ #[23, 23] ty #[v, .slice A m c]).run Tryd.prog w = .ok v' w' ∧ w'.ownsRow base 5 1 v' (n + m) (xs ++ bs.map bv) ∧ w.grownBy w' v.ownBlock := by
  obtain ⟨i0, hi0, hz0, hz1, hz2⟩ := info_parts' u8_info
  subst hm
  rcases A with _ | ad
  · have hbs : bs = [] := by
      rcases hr with h | ⟨ad, h, _⟩
      · simpa using h
      · cases h
    subst hbs
    refine ⟨v, w, ?_, by simpa using hown, World.grownBy.refl _ _⟩
    rcases hown.2 with ⟨rfl, rfl⟩ | ⟨g, cap, cur, rfl, _, _, hnc, _⟩
    · simp [Builtin.append_, run_underlying Tryd.underlying23, sizeOf, typeInfo, hi0, Builtin.lenOf, Builtin.firstCells]
    · simp [Builtin.append_, run_underlying Tryd.underlying23, sizeOf, typeInfo, hi0, Builtin.lenOf, Builtin.firstCells, hnc, storeCells]
  · have hnews : ∀ (j : Nat) (u : Value), (bs.map bv)[j]? = some u → w.cell? (ad.add j) = some u := by
      intro j u hj
      obtain ⟨ad', h1, _, h2⟩ := hr.cell hj
      injection h1 with h1
      subst h1
      exact h2
    obtain ⟨v', w', hrun, h2, h3, _, _⟩ := run_append_own_at (P := Tryd.prog) w base 23 ty 5 i0 _ 1 1 Tryd.underlying23 hi0 hz0 hz1 hz2 rfl (by omega) v n xs hown ad bs.length c (bs.map bv) (by simp) hnews
      (by intro u hu; simp at hu; obtain ⟨b, _, rfl⟩ := hu; rfl) (by simp only [maxLen]; omega) (by omega) hbase
    exact ⟨v', w', hrun, h2, h3⟩
theorem wl_append {w : World} {ops : Array Oper} {rest : List Oper} {o : Oper} {a : Act} {Q : Exit → Act → World → Prop} (hgd : o.guard = none) (t x : Operand)
    (ho : o.op = .call { callee := .builtin .append, args := #[t, x], argTypes := #[23, 23] }) (base : Nat) (v : Value) (n : Nat) (xs : List Value) (hs : a.eval t = v) (hown : w.ownsRow base 5 1 v n xs) (B : Nat) (A : Option Addr) (m c : Nat) (bs : List UInt8)
    (hx : a.eval x = .slice A m c) (hm : bs.length = m) (hr : Rd w B A (bs.map bv)) (hb : n + m ≤ 140737488355328) (hbase : base ≤ w.heap.size)
    (h : ∀ v' w', Hid (w'.ownsRow base 5 1 v' (n + m) (xs ++ bs.map bv) ∧ w.grownBy w' v.ownBlock) → wpList Tryd.prog ops Q rest (a.put o.dst v') w') : wpList Tryd.prog ops Q (o :: rest) a w := by
  refine wpList_plain hgd fun K hK => ?_
  obtain ⟨v', w', hr2, h2, h3⟩ := run_append_rd w base v n xs hown B A m c bs hm hr hb hbase o.type
  unfold Oper.wp execOp
  simp only [ho, resolve, invoke, builtin, Sem.run_bind, Sem.run_pure, Result.andThen_ok, List.map_toArray, List.map_cons, List.map_nil, hs, hx, hr2]
  exact hK _ _ (h v' w' ⟨h2, h3⟩)

/-- What a value of 4 bytes needs to be stored. -/
theorem four_facts (S : List UInt8) : ∃ D, H.Shut (D = ((digest S).take 4).map bv) ∧ H.Shut ((Tryd.prog.info? 113).map (·.size) = some D.length ∧ (List.replicate 4 (Value.int .u8 0)).length = D.length ∧ D.length = 4 ∧ ∀ v ∈ D, v.oneCell' = true) := by
  refine ⟨_, ⟨rfl⟩, ⟨?_⟩⟩
  have h1 : (((digest S).take 4).map bv).length = 4 := by rw [List.length_map, List.length_take, digest_length]; rfl
  exact ⟨by rw [h1]; exact info_size info29, by rw [h1]; exact List.length_replicate, h1, fun v hv => by obtain ⟨b, _, rfl⟩ := List.mem_map.1 hv; rfl⟩

end Go.Proofs.YtmhfhdbaeijcfaaDoor
namespace Go.Proofs.YtmhfhdbaeijcfaaDoor
open Go.RowKit
open Go.Proofs.YtmhfhdbaeijcfaaDoor.H

/-- The listed variables: the errors of package fields, ErrFrame, the table of words. -/
structure Env (w : World) (E : Nat → Value) (te : TypeId) (pe : Value) : Prop where
  errs : F.Errz w E
  ef : w.cell? ⟨0, 0, none⟩ = some (.iface te pe)
  kt : Ktab w
  size : 20 ≤ w.heap.size
theorem Env.below {w w' : World} {E : Nat → Value} {te : TypeId} {pe : Value} (h : Env w E te pe) {B : Nat} (hB : 20 ≤ B) (hb : Below B w w') : Env w' E te pe :=
  ⟨h.errs.below hB hb, (hb.cell (p := ⟨0, 0, none⟩) (show 0 < B by omega)).trans h.ef, h.kt.below (by omega) hb, Nat.le_trans h.size hb.size⟩

theorem flat_at (cs : List F.FC) (k : Nat) (x : F.FC) (h : cs[k]? = some x) : (F.flat cs)[k * 3]? = some (.int .i64 x.n) ∧ (F.flat cs)[k * 3 + 1]? = some (.float .f64 x.f) ∧ (F.flat cs)[k * 3 + 2]? = some (.string x.s) := by
  induction cs generalizing k with
  | nil => simp at h
  | cons y cs ih =>
    match k with
    | 0 =>
      have e : y = x := by simpa using h
      subst e
      exact ⟨rfl, rfl, rfl⟩
    | k + 1 =>
      have h' := ih k (by simpa using h)
      have e : F.flat (y :: cs) = [.int .i64 y.n, .float .f64 y.f, .string y.s] ++ F.flat cs := rfl
      rw [e]
      refine ⟨?_, ?_, ?_⟩
      · rw [List.getElem?_append_right (by simp; omega)]
        have : (k + 1) * 3 - [Value.int .i64 y.n, .float .f64 y.f, .string y.s].length = k * 3 := by simp; omega
        rw [this]; exact h'.1
      · rw [List.getElem?_append_right (by simp; omega)]
        have : (k + 1) * 3 + 1 - [Value.int .i64 y.n, .float .f64 y.f, .string y.s].length = k * 3 + 1 := by simp; omega
        rw [this]; exact h'.2.1
      · rw [List.getElem?_append_right (by simp; omega)]
        have : (k + 1) * 3 + 2 - [Value.int .i64 y.n, .float .f64 y.f, .string y.s].length = k * 3 + 2 := by simp; omega
        rw [this]; exact h'.2.2
/-- A row of cells of our own, as the contracts of package fields take it. -/
theorem own_cells {w : World} {base : Nat} {v : Value} {n : Nat} {cs : List F.FC} (h : w.ownsRow base 76 3 v n (F.flat cs)) (hn : 0 < n) : ∃ g c, v = .slice (some ⟨g, 0, none⟩) n c ∧ cs.length = n ∧ n ≤ c ∧ c ≤ 9223372036854775807 ∧ base ≤ g ∧ g < w.heap.size ∧ F.Cs w w.heap.size (some ⟨g, 0, none⟩) cs := by
  have hl : cs.length = n := by
    have := h.1
    rw [F.flat_length] at this
    omega
  rcases h.2 with ⟨_, h0⟩ | ⟨g, cap, cur, rfl, hb, hg, hnc, hcm, _⟩
  · omega
  · have hgl : g < w.heap.size := by
      rcases Nat.lt_or_ge g w.heap.size with hlt | hge
      · exact hlt
      · rw [Array.getElem?_eq_none hge] at hg; cases hg
    refine ⟨g, cap, rfl, hl, hnc, hcm, hb, hgl, .inr ⟨g, 0, rfl, hgl, fun k x hk => ?_⟩⟩
    obtain ⟨a1, a2, a3⟩ := flat_at cs k x hk
    have hc := h.cells (g := g) rfl
    have e : ∀ j, (⟨g, 0, none⟩ : Addr).add j = ⟨g, j, none⟩ := fun j => by simp [Addr.add]; omega
    have b1 := hc _ _ a1
    have b2 := hc _ _ a2
    have b3 := hc _ _ a3
    rw [e] at b1 b2 b3
    simp only [Nat.zero_add]
    exact ⟨b1, b2, b3⟩
theorem own_base {w : World} {base b2 : Nat} {e : TypeId} {size : Nat} {v : Value} {n : Nat} {cs : List Value} (h : w.ownsRow base e size v n cs) (hb : b2 ≤ base) : w.ownsRow b2 e size v n cs := by
  refine ⟨h.1, ?_⟩
  rcases h.2 with h0 | ⟨g, cap, cur, h1, hbg, h2⟩
  · exact .inl h0
  · exact .inr ⟨g, cap, cur, h1, Nat.le_trans hb hbg, h2⟩
theorem cellF_ok (f : Fr) (w : World) (B : Nat) (h : f.ok w B) (x : Nat) : (cellF f x).ok := by
  have hb : (f.bs.length : Int) ≤ 9223372036854775807 := by have := h.cap; have := h.max; omega
  have z : F.FC.ok {} := ⟨by decide, by decide, by decide, by show (0 : Nat) ≤ _; exact Nat.zero_le _⟩
  unfold cellF
  split
  · exact ⟨z.1, z.2.1, z.2.2.1, h.who⟩
  split
  · exact ⟨z.1, z.2.1, z.2.2.1, h.name⟩
  split
  · exact ⟨z.1, z.2.1, h.weight, z.2.2.2⟩
  split
  · exact ⟨z.1, z.2.1, z.2.2.1, by show f.bs.toArray.size ≤ maxLen; have e : maxLen = 9223372036854775807 := rfl; rw [e]; simp; omega⟩
  · have he : i64ok (ext f x) := by
      unfold ext
      split
      · exact h.seq
      split
      · exact h.got
      split
      · exact h.stream
      split
      · exact h.amount
      split
      · exact h.code
      · exact ⟨by omega, hb⟩
    exact ⟨he.1, he.2, z.2.2.1, z.2.2.2⟩
theorem layS_length (k : Int) : (layS k).length = 2 + (used k).length := by
  unfold layS layL
  rw [List.length_append, List.length_map]
  rfl
end Go.Proofs.YtmhfhdbaeijcfaaDoor
namespace Go.Proofs.YtmhfhdbaeijcfaaDoor
open Go.RowKit
open Go.Proofs.YtmhfhdbaeijcfaaDoor.H

end Go.Proofs.YtmhfhdbaeijcfaaDoor
namespace Go.Proofs.YtmhfhdbaeijcfaaDoor
open Go.ChangeShapes Go.WideShapes Go.ChangeAt Go.WideMaps Go.WideElems Go.RowKit

theorem compErr : (Tryd.prog.info? 159).map (·.comparable) = some true := by kernel_rfl
theorem sizeErr : (Tryd.prog.info? 175).map (·.size) = some 1 := by kernel_rfl
/-- An error against itself. -/
theorem err_same (a : Addr) (W : World) : (binOp .eql 28 (.iface 159 (.pointer (some a))) (.iface 159 (.pointer (some a)))).run Tryd.prog W = .ok (.bool true) W := by
  obtain ⟨i, hi, hcmp⟩ := Option.map_eq_some_iff.1 compErr
  obtain ⟨j, hj, _⟩ := Option.map_eq_some_iff.1 sizeErr
  exact run_eql_iface_ptr_same W a Tryd.underlying28 Tryd.underlying159 hi hcmp hj
/-- Two errors that are not one. -/
theorem err_other {W : World} {a b : Addr} {ca cb : Array Value} {ta tb : TypeId} (hne : a ≠ b) (ha : W.heap[a.block]? = some (.cells ca ta (0, 0))) (hb : W.heap[b.block]? = some (.cells cb tb (0, 0))) :
    (binOp .eql 28 (.iface 159 (.pointer (some a))) (.iface 159 (.pointer (some b)))).run Tryd.prog W = .ok (.bool false) W := by
  obtain ⟨i, hi, hcmp⟩ := Option.map_eq_some_iff.1 compErr
  obtain ⟨j, hj, hsz⟩ := Option.map_eq_some_iff.1 sizeErr
  exact run_eql_iface_ptr_other W Tryd.underlying28 Tryd.underlying159 hi hcmp hj (by omega) hne ha hb

theorem own : ownKnob Tryd.prog.godebug = none := by kernel_rfl
theorem cellsErr : Tryd.prog.cellsOf 175 = 1 := by kernel_rfl
theorem cellsStr : Tryd.prog.cellsOf 9 = 1 := by kernel_rfl
theorem rowErr : ∀ u, Tryd.prog.typeName? 3 u = some "*errors.errorString" → u = 159 := fun u hu =>
  typeName_ptr_named (nm := "errors.errorString") (tp := 159) (by kernel_rfl) (by kernel_rfl) (by decide) u hu

def isSent (d : DataW Unit) : Prop := ∃ text, d = .iface "*errors.errorString" (.ptr (.agg [.lit (.string text)]))

set_option maxRecDepth 100000 in
theorem sent_list {W : World} : ∀ (l : List (String × DataW Unit)) (ps : List MemPlace), DataW.LaidVars Tryd.prog W l ps → ps.Nodup →
    (∀ b off, MemPlace.cell b off ∈ ps → (∃ c t, W.heap[b]? = some (.cells c t (0, 0))) ∧ ∀ u v, W.cell? ⟨b, off, none⟩ = some (.iface u v) → Value.okWide Tryd.prog W .any 0 u v) →
    (∀ x ∈ l, isSent x.2) → (∀ x ∈ l, ∀ g, Tryd.prog.globalNamed x.1 = some g → (Tryd.prog.globals[g]?).map (·.type) = some 28) →
    ∃ ads : List Addr, ads.length = l.length ∧ ads.Nodup ∧ (∀ a ∈ ads, MemPlace.cell a.block a.off ∈ ps) ∧
      ∀ (i : Nat) (x : String × DataW Unit) (a : Addr), l[i]? = some x → ads[i]? = some a → ∃ g, Tryd.prog.globalNamed x.1 = some g ∧ W.cell? ⟨g, 0, none⟩ = some (.iface 159 (.pointer (some a))) ∧ ∃ c t, W.heap[a.block]? = some (.cells c t (0, 0)) := by
  intro l
  induction l with
  | nil => intro ps _ _ _ _ _; exact ⟨[], rfl, List.nodup_nil, by simp, by simp⟩
  | cons x l ih =>
    intro ps hv hnd hrows hs ht
    obtain ⟨n, d⟩ := x
    obtain ⟨g, t, cs, fuel, p, q, hg, htt, hvar, hd, hq, rfl⟩ := hv
    obtain rfl : t = 28 := by
      have := ht (n, d) (by simp) g hg
      rw [htt] at this
      exact Option.some.inj this
    obtain ⟨text, rfl⟩ := hs (n, d) (by simp)
    obtain ⟨l0⟩ := cs
    have ok0 : ∀ u v, l0 = [.iface u v] → Value.okWide Tryd.prog W .any 0 u v := fun u v e => by
      subst e
      exact (hrows g 0 (by simp [MemPlace.row])).2 u v (by simpa using World.var?_cell hg hvar 0)
    obtain ⟨a0, s0, rfl, hc0, hs0, hz0, rfl⟩ := errorString_of_trod Tryd.underlying28 rowErr Tryd.underlying159 Tryd.underlying175 rfl rfl Tryd.underlying9 cellsErr cellsStr hd ok0
    rw [List.nodup_append] at hnd
    obtain ⟨hn1, hn2, hn3⟩ := hnd
    obtain ⟨ads, hl, hnda, hin, hall⟩ := ih q hq hn2 (fun b off hm => hrows b off (List.mem_append_right _ hm)) (fun x hx => hs x (List.mem_cons_of_mem _ hx)) (fun x hx => ht x (List.mem_cons_of_mem _ hx))
    have hspot : a0.spot = none := by
      unfold World.cell? at hc0
      cases hsp : a0.spot with
      | none => rfl
      | some k => rw [hsp] at hc0; revert hc0; split <;> simp
    have hmem : MemPlace.cell a0.block a0.off ∈ MemPlace.row a0 1 := by simp [MemPlace.row]
    refine ⟨a0 :: ads, by simp [hl], ?_, ?_, ?_⟩
    · rw [List.nodup_cons]
      exact ⟨fun hm => hn3 _ (List.mem_append_right _ hmem) _ (hin a0 hm) rfl, hnda⟩
    · intro a ha
      rcases List.mem_cons.1 ha with rfl | ha
      · exact List.mem_append_left _ (List.mem_append_right _ hmem)
      · exact List.mem_append_right _ (hin a ha)
    · intro i x a hx ha
      match i with
      | 0 =>
        simp only [List.getElem?_cons_zero, Option.some.injEq] at hx ha
        subst hx ha
        exact ⟨g, hg, by simpa using World.var?_cell hg hvar 0, (hrows _ _ (List.mem_append_left _ (List.mem_append_right _ hmem))).1⟩
      | i + 1 => exact hall i x a (by simpa using hx) (by simpa using ha)

/-- 'the variables with the numbers idx hold errors, each one of its own'. -/
structure Sents (W : World) (E : Nat → Value) (idx : List Nat) : Prop where
  at_ : ∀ g ∈ idx, ∃ a c t, E g = .iface 159 (.pointer (some a)) ∧ W.cell? ⟨g, 0, none⟩ = some (E g) ∧ W.heap[a.block]? = some (.cells c t (0, 0))
  ne : ∀ g ∈ idx, ∀ h ∈ idx, g ≠ h → E g ≠ E h

theorem sents_of_laid {W : World} (l : List (String × DataW Unit)) (idx : List Nat) (h : laidMet Tryd.prog l W) (hs : ∀ x ∈ l, isSent x.2) (hidx : l.map (fun x => Tryd.prog.globalNamed x.1) = idx.map some)
    (ht : ∀ g ∈ idx, (Tryd.prog.globals[g]?).map (·.type) = some 28) : ∃ E, Sents W E idx := by
  obtain ⟨ps, hv, hnd, hrows⟩ := h
  have hmem : ∀ x ∈ l, ∀ g, Tryd.prog.globalNamed x.1 = some g → g ∈ idx := by
    intro x hx g hg
    have : some g ∈ idx.map some := by rw [← hidx, List.mem_map]; exact ⟨x, hx, hg⟩
    simpa using this
  obtain ⟨ads, hl, hnda, _, hall⟩ := sent_list l ps hv hnd hrows hs (fun x hx g hg => ht g (hmem x hx g hg))
  have hlen : idx.length = l.length := by have := congrArg List.length hidx; simpa using this.symm
  have key : ∀ g ∈ idx, ∃ x a, l[idx.idxOf g]? = some x ∧ ads[idx.idxOf g]? = some a ∧ Tryd.prog.globalNamed x.1 = some g := by
    intro g hg
    have hi : idx.idxOf g < idx.length := List.idxOf_lt_length_iff.2 hg
    refine ⟨l[idx.idxOf g]'(by omega), ads[idx.idxOf g]'(by omega), List.getElem?_eq_getElem _, List.getElem?_eq_getElem _, ?_⟩
    have h1 : (l.map (fun x => Tryd.prog.globalNamed x.1))[idx.idxOf g]? = (idx.map some)[idx.idxOf g]? := by rw [hidx]
    rw [List.getElem?_map, List.getElem?_map, List.getElem?_eq_getElem (by omega), List.getElem?_eq_getElem hi] at h1
    simp only [Option.map_some, Option.some.injEq] at h1
    rw [h1, List.getElem_idxOf]
  refine ⟨fun g => .iface 159 (.pointer ads[idx.idxOf g]?), ?_, ?_⟩
  · intro g hg
    obtain ⟨x, a, hx, ha, hgx⟩ := key g hg
    obtain ⟨g', hg', hc, c, t, hh⟩ := hall _ x a hx ha
    rw [hgx] at hg'
    obtain rfl := Option.some.inj hg'
    exact ⟨a, c, t, by rw [ha], by rw [ha]; exact hc, hh⟩
  · intro g hg h hh hne he
    obtain ⟨x, a, hx, ha, hgx⟩ := key g hg
    obtain ⟨y, b, hy, hb, hgy⟩ := key h hh
    have e : a = b := by
      simp only [ha, hb] at he
      injection he with _ he
      injection he with he
      exact Option.some.inj he
    subst e
    have hi := (List.getElem?_eq_some_iff.1 ha)
    have hj := (List.getElem?_eq_some_iff.1 hb)
    obtain ⟨hi1, hi2⟩ := hi
    obtain ⟨hj1, hj2⟩ := hj
    have : idx.idxOf g = idx.idxOf h := (List.getElem_inj hnda).1 (hi2.trans hj2.symm)
    rw [this, hy] at hx
    obtain rfl := Option.some.inj hx
    rw [hgy] at hgx
    exact hne (Option.some.inj hgx).symm

/-- An error's own address. -/
def adOf : Value → Addr
  | .iface _ (.pointer (some a)) => a
  | _ => ⟨0, 0, none⟩
theorem Sents.val {W : World} {E : Nat → Value} {idx : List Nat} (h : Sents W E idx) {g : Nat} (hg : g ∈ idx) : E g = .iface 159 (.pointer (some (adOf (E g)))) := by
  obtain ⟨a, _, _, he, _⟩ := h.at_ g hg
  rw [he]; rfl
theorem Sents.cell {W : World} {E : Nat → Value} {idx : List Nat} (h : Sents W E idx) {g : Nat} (hg : g ∈ idx) : W.cell? ⟨g, 0, none⟩ = some (.iface 159 (.pointer (some (adOf (E g))))) := by
  obtain ⟨a, _, _, he, hc, _⟩ := h.at_ g hg
  rw [hc, he]; rfl
theorem Sents.adrow {W : World} {E : Nat → Value} {idx : List Nat} (h : Sents W E idx) {g : Nat} (hg : g ∈ idx) : ∃ c t, W.heap[(adOf (E g)).block]? = some (.cells c t (0, 0)) := by
  obtain ⟨a, c, t, he, _, hr⟩ := h.at_ g hg
  exact ⟨c, t, by rw [he]; exact hr⟩
theorem Sents.adne {W : World} {E : Nat → Value} {idx : List Nat} (h : Sents W E idx) {g k : Nat} (hg : g ∈ idx) (hk : k ∈ idx) (hne : g ≠ k) : adOf (E g) ≠ adOf (E k) := fun e => h.ne g hg k hk hne (by rw [h.val hg, h.val hk, e])
theorem Sents.size {W : World} {E : Nat → Value} {idx : List Nat} (h : Sents W E idx) {g : Nat} (hg : g ∈ idx) : g < W.heap.size := by
  obtain ⟨_, _, _, _, hc, _⟩ := h.at_ g hg
  rcases Nat.lt_or_ge g W.heap.size with hlt | hge
  · exact hlt
  · unfold World.cell? at hc
    rw [Array.getElem?_eq_none (by simpa using hge)] at hc
    cases hc
end Go.Proofs.YtmhfhdbaeijcfaaDoor
namespace Go.Proofs.YtmhfhdbaeijcfaaDoor
open Go.RowKit
open Go.Proofs.YtmhfhdbaeijcfaaDoor.H

/-- FAck with Got 7; FData without Bytes. -/
def fAck : Fr := ⟨6, 0, 7, 0, 0, 0, ⟨#[]⟩, ⟨#[]⟩, 0, none, 0, []⟩
theorem fAck_ok (w : World) (B : Nat) : fAck.ok w B := ⟨⟨by decide, by decide⟩, ⟨by decide, by decide⟩, ⟨by decide, by decide⟩, ⟨by decide, by decide⟩, ⟨by decide, by decide⟩, ⟨by decide, by decide⟩, Nat.zero_le _, Nat.zero_le _, by decide, Nat.zero_le _, by decide, .inl rfl⟩
theorem fAck_valid : valid fAck = true := by kernel_rfl
theorem fAck_total : total fAck = 11 := by kernel_rfl
end Go.Proofs.YtmhfhdbaeijcfaaDoor
namespace Go.Proofs.YtmhfhdbaeijcfaaDoor
open Go.RowKit
open Go.Proofs.YtmhfhdbaeijcfaaDoor.H

theorem bytes_eq (a b : List UInt8) : (ByteArray.mk a.toArray = ByteArray.mk b.toArray) ↔ a = b := by
  constructor
  · intro h
    injection h with h
    simpa using congrArg Array.toList h
  · rintro rfl; rfl
set_option maxRecDepth 100000 in
theorem equal_same (n c d : Nat) (A B : Option Addr) (bs : List UInt8) (w : World) (hn : bs.length = n) (hr : Rd w w.heap.size A (bs.map bv)) (hr2 : Rd w w.heap.size B (bs.map bv)) :
    Calls Tryd.prog 49 #[.slice A n c, .slice B n d] w fun e w' => e = .returned (.bool true) ∧ w = w' := by
  have h1 := Rd.toStr hr n c hn
  have h2 := Rd.toStr hr2 n d hn
  generalize ByteArray.mk bs.toArray = s at *
  go_enter Tryd.func49, Tryd.ntmps49
  go_wp2_with fail
  go_ret
  exact ⟨rfl, rfl⟩
set_option maxRecDepth 100000 in
theorem equal_other (n m c d : Nat) (A B : Option Addr) (bs cs : List UInt8) (w : World) (hn : bs.length = n) (hm : cs.length = m) (hr : Rd w w.heap.size A (bs.map bv)) (hr2 : Rd w w.heap.size B (cs.map bv)) (hne : bs ≠ cs) :
    Calls Tryd.prog 49 #[.slice A n c, .slice B m d] w fun e w' => e = .returned (.bool false) ∧ w = w' := by
  have h1 := Rd.toStr hr n c hn
  have h2 := Rd.toStr hr2 m d hm
  go_enter Tryd.func49, Tryd.ntmps49
  go_wp2_with fail
  go_ret
  exact ⟨ret_bool (by simp [hne]), rfl⟩

theorem add_block (ad : Addr) (j : Nat) : (ad.add j).block = ad.block := by unfold Addr.add; split <;> rfl
set_option maxRecDepth 100000 in
/-- Bytes appended to a slice with no room behind: a new row. -/
theorem wl_fresh {w : World} {ops : Array Oper} {rest : List Oper} {o : Oper} {a : Act} {Q : Exit → Act → World → Prop} (hgd : o.guard = none) (t x : Operand)
    (ho : o.op = .call { callee := .builtin .append, args := #[t, x], argTypes := #[23, 23] }) (b : Addr) (n : Nat) (olds : List UInt8) (hs : a.eval t = .slice (some b) n n) (hl : olds.length = n) (holds : ∀ (j : Nat) (u : Value), (olds.map bv)[j]? = some u → w.cell? (b.add j) = some u)
    (ad : Addr) (m c : Nat) (news : List UInt8) (hx : a.eval x = .slice (some ad) m c) (hm : news.length = m) (hnews : ∀ (j : Nat) (u : Value), (news.map bv)[j]? = some u → w.cell? (ad.add j) = some u) (hm0 : 0 < m) (hb : n + m ≤ 1000000)
    (h : ∀ c' w', Hid (n + m ≤ c' ∧ c' ≤ 9223372036854775807 ∧ w'.ownsRow w.heap.size 5 1 (.slice (some ⟨w.heap.size, 0, none⟩) (n + m) c') (n + m) ((olds ++ news).map bv) ∧ Below w.heap.size w w') → wpList Tryd.prog ops Q rest (a.put o.dst (.slice (some ⟨w.heap.size, 0, none⟩) (n + m) c')) w') : wpList Tryd.prog ops Q (o :: rest) a w := by
  refine wpList_plain hgd fun K hK => ?_
  obtain ⟨i0, hi0, hz0, hz1, hz2⟩ := info_parts' u8_info
  have hcap := Go.Room.nextslicecap_le' (need := n + m) (old := n) (by omega)
  have hr := run_append_grow (P := Tryd.prog) w 23 o.type 5 i0 _ Tryd.underlying23 hi0 hz0 b n n (olds.map bv) (by rw [hz1]; simpa using hl) holds ad m c (news.map bv) (by rw [hz1]; simpa using hm) hnews (by omega) (by omega) (by rw [hz2]; omega)
  have hgc : n + m ≤ grownCap w (n + m) n 5 ∧ grownCap w (n + m) n 5 ≤ 9223372036854775807 := ⟨grownCap_ge w _ _ _, grownCap_le_maxLen w _ _ _ (by have e : maxLen = 9223372036854775807 := rfl; rw [e]; omega)⟩
  unfold Oper.wp execOp
  simp only [ho, resolve, invoke, builtin, Sem.run_bind, Sem.run_pure, Result.andThen_ok, List.map_toArray, List.map_cons, List.map_nil, hs, hx, hr]
  refine hK _ _ (h _ _ (Lib.hid ⟨hgc.1, hgc.2, ?_, (Below.refl _ _).drew.alloc (Nat.le_refl _) _⟩))
  refine ⟨by simp [hl, hm], .inr ⟨w.heap.size, _, _, rfl, Nat.le_refl _, heap_alloc_last w.drew _, hgc.1, hgc.2, ?_, ?_⟩⟩
  · rw [Array.size_append, Array.size_append, size_zeroCells]
    simp [hl, hm, Value.cells]
    omega
  · rw [Nat.mul_one]
    simp only [Array.toList_append]
    rw [← List.map_append, List.take_append_of_le_length (by simp [hl, hm]), List.take_of_length_le (by simp [hl, hm])]

set_option maxRecDepth 100000 in
set_option maxHeartbeats 1000000 in
theorem sealed_new (n : Nat) (b : Addr) (bs : List UInt8) (w : World) (hK : Ktab w) (hn : bs.length = n) (hs : n ≤ 900000) (hr : Rd w w.heap.size (some b) (bs.map bv)) (hc : ∀ (j : Nat) (u : Value), (bs.map bv)[j]? = some u → w.cell? (b.add j) = some u) :
    Calls Tryd.prog 41 #[.slice (some b) n n] w fun e w' => ∃ A c, e = .returned (.slice A (n + 4) c) ∧ Hid (Rd w' w'.heap.size A ((bs ++ (digest bs).take 4).map bv) ∧ Below w.heap.size w w') := by
  have h0 := hK.1
  have HK := Lib.hid hK
  have HN := Lib.hid hn
  have HR := Lib.hid hr
  have HC := Lib.hid hc
  clear hK hn hr hc
  go_enter Tryd.func41, Tryd.ntmps41
  go_wp2_with fail
  have HP := Lib.hid (one_part w (some b) n n bs HN.out (Nat.le_refl _) (by omega) HR.out)
  have hb1 := below_alloc w (.cells #[.slice (some b) n n] 23)
  generalize w.alloc (.cells #[.slice (some b) n n] 23) = w1 at *
  have hz1 : w.heap.size ≤ w1.heap.size := hb1.size
  with_reducible refine (check_any 1 1 (some ⟨w.heap.size, 0, none⟩) _ w1 (HK.out.below h0 hb1) rfl (by decide) (by rw [flat_one, HN.out]; omega) HP.out).mono ?_
  rintro e w2 ⟨v2, rfl, HV2⟩
  obtain ⟨D, HD, HLD⟩ := four_facts bs
  have HVD : Hid (v2 = .agg D.toArray) := Lib.hid (by rw [HD.out]; have := HV2.out.1; rwa [flat_one] at this)
  have HB2 := Lib.hid (hb1.trans (HV2.out.2.mono hz1))
  have hz2 : w.heap.size ≤ w2.heap.size := HB2.out.size
  clear HV2 HP hb1
  have hsl := fun w' : World => run_all w' 113 4 under29 w2.heap.size 0
  go_wp2_with (first
    | (refine wl_alloc rfl 113 rfl _ _ info29 ?_
       intro w3 HA3 HB3 HZ3)
    | (refine wl_store rfl 113 (.tmp 3) (.tmp 6) rfl w2.heap.size _ D rfl HVD.out rfl 113 _ HA3.out HLD.out.1 HLD.out.2.1 HLD.out.2.2.2 ?_
       intro w4 HR4 HS4 HZ4
       have hz3 : w2.heap.size < w3.heap.size := by rw [HZ3.out]; omega
       have hz4 : w3.heap.size ≤ w4.heap.size := by rw [HZ4.out]; exact Nat.le_refl _
       have hb24 : Below w2.heap.size w2 w4 := HB3.out.trans (HS4.out.below (Nat.le_refl _) (by omega))
       have HB4 := Lib.hid (HB2.out.trans (hb24.mono hz2))
       have HL4 : Hid (((digest bs).take 4).length = 4) := Lib.hid (by rw [List.length_take, digest_length]; rfl)
       have HC4 : Hid (∀ (j : Nat) (u : Value), (bs.map bv)[j]? = some u → w4.cell? (b.add j) = some u) := Lib.hid (fun j u hj => by
         rcases HR.out with he | ⟨ad, he, hbk, _⟩
         · rw [he] at hj; simp at hj
         · injection he with he
           subst he
           rw [HB4.out.cell (by rw [add_block]; exact hbk)]
           exact HC.out j u hj)
       have HD4 : Hid (∀ (j : Nat) (u : Value), (((digest bs).take 4).map bv)[j]? = some u → w4.cell? ((⟨w2.heap.size, 0, none⟩ : Addr).add j) = some u) := Lib.hid (fun j u hj => by
         rw [← HD.out] at hj
         obtain ⟨ad, he, _, hcc⟩ := (HR4.out.rd w4.heap.size (by omega)).cell hj
         injection he with he
         rw [he]
         exact hcc))
    | (refine wl_fresh rfl (.tmp 7) (.tmp 8) rfl b n bs rfl HN.out HC4.out ⟨w2.heap.size, 0, none⟩ 4 4 ((digest bs).take 4) rfl HL4.out HD4.out (by decide) (by omega) ?_
       intro c5 w5 HA5))
  go_ret
  refine ⟨_, c5, rfl, Lib.hid ⟨?_, HB4.out.trans (HA5.out.2.2.2.mono HB4.out.size)⟩⟩
  obtain ⟨A', c', e', _, _, _, hr', _⟩ := own_slice HA5.out.2.2.1
  injection e' with e1 _ _
  rw [e1]
  exact hr'
end Go.Proofs.YtmhfhdbaeijcfaaDoor
